"""How the tests of the later files check errors, and values that many of their tests share."""

import unittest

from spiderwires.errors import Conflict, InvalidInput, OutOfRange

ATTRIBUTES = {
    "BadStep": "index", "BadProgram": "index", "BadLine": "line", "NoEdge": "edge", "PortMismatch": "counts",
    "TooLarge": "limit",
}

# Values of every kind that are no diagram, port, bit, tuple of steps, word, program or text of more than one line.
ODD_VALUES = (
    None, True, False, -1, 99, 1.5, "", "word", b"", [], [[]], {}, {0: 1}, set(), frozenset(), (), ((),), (None, None),
    object(), len, range(2),
)
NAMES = sorted(one + other for one in "abcdefgh" for other in "abcdefghij")


def sized(nodes, edges, scalar, count=0):
    """A diagram with this many nodes, loops at the first of them, and ports of it."""
    found = tuple((name, "green", 1) for name in NAMES[:nodes])
    ports = tuple((str(port), NAMES[0], "plain") for port in range(count))
    return (count, found, ports + ((NAMES[0], NAMES[0], "plain"),) * (edges - count), scalar)


class Case(unittest.TestCase):
    def fails(self, error, wanted, call, *arguments, **named):
        """The call raises this very error, with this in its attribute unless it is a reason."""
        with self.assertRaises((InvalidInput, Conflict, OutOfRange), msg=(arguments, named)) as caught:
            call(*arguments, **named)
        found = caught.exception
        self.assertIs(type(found), error, (arguments, named))
        attribute = ATTRIBUTES.get(error.__name__, "reason")
        if attribute == "reason":
            self.assertTrue(hasattr(found, "reason"))
        else:
            got = getattr(found, attribute)
            self.assertEqual((type(got), got), (type(wanted), wanted), (arguments, named))
