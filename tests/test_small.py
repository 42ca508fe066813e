"""The limits of small diagrams: point [2], in all functions that need a small diagram."""

import unittest

from drawn import PAIR, slow_table, zero_form

from spiderwires.diagrams import edge_parity, is_diagram, need_diagram
from spiderwires.errors import BadBits, BadDiagram, OutOfRange, TooLarge, ZeroTable
from spiderwires.forms import form, form_steps, leaders
from spiderwires.steps import apply_step, walk
from spiderwires.tables import entry, table

NAMES = sorted(one + other for one in "abcdefgh" for other in "abcdefghij")


def sized(nodes, edges, scalar):
    """A diagram without ports, with this many nodes and edges."""
    found = tuple((name, "green", 1) for name in NAMES[:nodes])
    return (0, found, ((NAMES[0], NAMES[0], "plain"),) * edges, scalar)


CALLS = (form, form_steps, leaders, table, lambda diagram: entry(diagram, ()))


class Limits(unittest.TestCase):
    def limit(self, diagram):
        """The limit that all functions name, or None."""
        self.assertTrue(is_diagram(diagram))
        found = []
        for call in CALLS:
            try:
                call(diagram)
                found.append(None)
            except TooLarge as error:
                self.assertIsInstance(error, OutOfRange)
                self.assertIs(type(error.limit), int)
                found.append(error.limit)
            except ZeroTable:
                found.append(None)
        self.assertEqual(len(set(found)), 1, found)
        return found[0]

    def test_nodes(self):
        for nodes, wanted in ((0, None), (23, None), (24, None), (25, 24), (26, 24), (80, 24)):
            self.assertEqual(self.limit(sized(nodes, 0, (0, 0))), wanted)

    def test_edges(self):
        for edges, wanted in ((199, None), (200, None), (201, 200), (202, 200), (1500, 200)):
            self.assertEqual(self.limit(sized(1, edges, (0, 0))), wanted)

    def test_powers(self):
        for k, wanted in ((499, None), (500, None), (501, 500), (2000, 500)):
            for j in (0, 7):
                self.assertEqual(self.limit(sized(1, 1, (k, j))), wanted)
                self.assertEqual(self.limit(sized(1, 1, (-k, j))), wanted)

    def test_all_at_the_limit(self):
        for k in (500, -500):
            self.assertIsNone(self.limit(sized(24, 200, (k, 3))))
        self.assertIsNone(self.limit(sized(24, 200, None)))

    def test_the_first_limit_that_is_exceeded(self):
        for nodes in (24, 25):
            for edges in (200, 201):
                for scalar in ((500, 0), (501, 0), (-500, 0), (-501, 0), None):
                    large = scalar is not None and abs(scalar[0]) > 500
                    wanted = 24 if nodes > 24 else 200 if edges > 200 else 500 if large else None
                    self.assertEqual(self.limit(sized(nodes, edges, scalar)), wanted, (nodes, edges, scalar))

    def test_none_has_no_limit_of_its_own(self):
        self.assertIsNone(self.limit(sized(2, 2, None)))
        self.assertEqual(self.limit(sized(25, 2, None)), 24)
        self.assertEqual(self.limit(sized(2, 201, None)), 200)
        self.assertEqual(form(sized(24, 200, None)), zero_form(0))

    def test_results_at_the_limit(self):
        names = NAMES[:24]
        edges = tuple((one, other, "plain") for one, other in zip(names, names[1:]))
        nodes = tuple((name, "green", 0) for name in names)
        for k in (500, -500):
            diagram = (0, nodes, edges, (k, 1))
            self.assertEqual(form(diagram), (0, (), (), (k + 2, 1)))
            self.assertEqual(walk(diagram, form_steps(diagram)), form(diagram))
            self.assertEqual(table(diagram), slow_table((0, (), (), (k + 2, 1))))

    def test_a_form_need_not_be_small(self):
        normal = form(sized(2, 0, (500, 0)))
        self.assertEqual(normal, (0, (), (), (502, 2)))
        for call in CALLS:
            with self.assertRaises(TooLarge) as caught:
                call(normal)
            self.assertEqual(caught.exception.limit, 500)

    def test_too_large_comes_before_a_zero_table(self):
        for diagram, limit in ((sized(25, 0, None), 24), (sized(0, 0, (501, 0))[:1] + ((("a", "green", 2),), (), (501, 0)), 500)):
            with self.assertRaises(TooLarge) as caught:
                leaders(diagram)
            self.assertEqual(caught.exception.limit, limit)

    def test_the_other_errors_come_first(self):
        for diagram in (sized(25, 0, (0, 8)), sized(81 - 1, 201, (0, 0, 0)), sized(25, 1501, (0, 0)), sized(1, 0, (2001, 0))):
            for call in CALLS:
                with self.assertRaises(BadDiagram):
                    call(diagram)
        for diagram in (sized(25, 0, (0, 0)), sized(1, 201, (0, 0)), sized(1, 0, (-501, 0))):
            for bits in ((0,), [], None, 0, (2,)):
                with self.assertRaises(BadBits):
                    entry(diagram, bits)
        large = PAIR[:3] + ((501, 0),)
        for bits in ((), (0,), (0, 2), [0, 0], (True, 0)):
            with self.assertRaises(BadBits):
                entry(large, bits)

    def test_the_other_functions_have_no_such_limit(self):
        diagram = sized(80, 1500, (2000, 7))
        need_diagram(diagram)
        self.assertEqual(edge_parity(diagram, diagram[2][0]), 0)
        self.assertEqual(apply_step(diagram, ("unloop", NAMES[0], "plain")), sized(80, 1499, (2000, 7)))
        self.assertEqual(walk(diagram, [("unloop", NAMES[0], "plain")] * 1500), sized(80, 0, (2000, 7)))


if __name__ == "__main__":
    unittest.main()
