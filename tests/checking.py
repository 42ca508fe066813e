"""How the tests of the later files check errors, and values that many of their tests share."""

import itertools
import unittest

from spiderwires.errors import Conflict, InvalidInput, OutOfRange

ATTRIBUTES = {
    "BadStep": "index", "BadProgram": "index", "BadLine": "line", "NoEdge": "edge", "PortMismatch": "counts",
    "TooLarge": "limit",
}

# Values of many kinds, none of them a diagram, a port, a word of [7] or a witness.
ODD_VALUES = (
    None, True, False, -1, 99, 1.5, "", "word", b"", [], [[]], {}, {0: 1}, set(), frozenset(), (), ((),), (None, None),
    object(), len, range(2),
)
# Values that are no ascending tuple of indexes of two ports.
NOT_PORTS = (
    None, True, False, 0, 1, -1, 1.5, "", "0", "01", b"", b"0", [], [0], [0, 1], {}, {0: 1}, set(), {0}, frozenset((0,)), range(2),
    object(), len, (2,), (0, 2), (-1,), (-1, 0), (0, 0), (1, 1), (1, 0), (0, 1, 1), (0, 0, 1), (True,), (False,), (False, True),
    (0, True), (None,), ("0",), (0.0,), ((0,),), ([0],), (0, None), (10 ** 40,), (0, 1, 2),
)
NAMES = sorted(one + other for one in "abcdefgh" for other in "abcdefghij")


def all_ports(count):
    """All ascending tuples of indexes of ports without duplicates."""
    return [ports for many in range(count + 1) for ports in itertools.combinations(range(count), many)]


def sized(nodes, edges, scalar, count=0):
    """A diagram with this many nodes, loops at the first of them, and ports of it."""
    found = tuple((name, "green", 1) for name in NAMES[:nodes])
    ports = tuple((str(port), NAMES[0], "plain") for port in range(count))
    return (count, found, ports + ((NAMES[0], NAMES[0], "plain"),) * (edges - count), scalar)


class Case(unittest.TestCase):
    def fails(self, error, wanted, call, *arguments, **named):
        """The call raises this very error, with this in its attribute unless it is a reason."""
        with self.assertRaises((InvalidInput, Conflict, OutOfRange), msg=(arguments, named)) as caught:
            call(*arguments, **named)
        found = caught.exception
        self.assertIs(type(found), error, (arguments, named))
        attribute = ATTRIBUTES.get(error.__name__, "reason")
        if attribute == "reason":
            self.assertTrue(hasattr(found, "reason"))
        else:
            got = getattr(found, attribute)
            self.assertEqual((type(got), got), (type(wanted), wanted), (arguments, named))
