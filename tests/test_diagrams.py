"""Diagrams, their bounds and the parities of their edges: point [2], and the interface of diagrams.py."""

import re
import unittest
import unittest.mock

from drawn import EMPTY, PAIR, RED, draw_many, parity

from spiderwires.diagrams import edge_parity, is_diagram, need_diagram
from spiderwires.errors import BadDiagram, InvalidInput, NoEdge

JUNK = (
    None, True, False, -1, 0, 1, 2, 3, 4, 7, 8, 9, 10 ** 400, 1.0, "", "0", "1", "2", "8", "a", "b", "r", "A", "ab1",
    "abcdefgh", "abcdefghi", "a\n", "\u00e4", "green", "red", "plain", "crossed", "Plain", b"a", (), [], {}, set(),
    (0, 0), ("a", "green", 0), ("0", "a", "plain"), [0, 0], object(), int, unittest.mock.ANY,
)
OTHER_KINDS = (
    None, True, False, 0, 1, 8, -3, 10 ** 400, 2.5, "", "diagram", b"", b"abcd", [], {}, set(), frozenset(), object(),
    int, len, range(4), (), (0,), (0, ()), (0, (), ()), (0, (), (), (0, 0), ()), ((), (), (), ()), "abcd", {0: 1},
    [0, (), (), (0, 0)], {0: 0, 1: (), 2: (), 3: (0, 0)}, (EMPTY,), (EMPTY, EMPTY, EMPTY, EMPTY),
)
VALID = (
    EMPTY, RED, PAIR, (0, (), (), None), (0, (("a", "red", 3),), (), (-2000, 7)),
    (2, (), (("0", "1", "plain"),), (2000, 0)), (2, (), (("0", "1", "crossed"),), None),
    (0, (("a", "red", 0),), (("a", "a", "crossed"), ("a", "a", "crossed"), ("a", "a", "plain")), (3, 4)),
    (3, (("a", "green", 1), ("ab", "red", 2), ("b", "green", 0)),
     (("0", "2", "crossed"), ("1", "ab", "plain"), ("a", "a", "plain"), ("a", "ab", "plain"), ("a", "ab", "plain")),
     (-1, 6)),
)


def is_whole(value, low, high):
    return type(value) is int and low <= value <= high


def is_right(value):
    """The words of point [2], once more."""
    if type(value) is not tuple or len(value) != 4:
        return False
    count, nodes, edges, scalar = value
    if not is_whole(count, 0, 8) or type(nodes) is not tuple or type(edges) is not tuple:
        return False
    if any(type(item) is not tuple or len(item) != 3 for item in nodes + edges) or len(nodes) > 80 or len(edges) > 1500:
        return False
    for name, color, phase in nodes:
        if type(name) is not str or not re.fullmatch("[a-z]{1,8}", name) or not is_whole(phase, 0, 3):
            return False
        if type(color) is not str or color not in ("green", "red"):
            return False
    ports = [str(port) for port in range(count)]
    names = [name for name, _, _ in nodes]
    if any(type(item) is not str for edge in edges for item in edge):
        return False
    ends = [end for u, v, _ in edges for end in (u, v)]
    if any(end not in names + ports for end in ends) or any(ends.count(port) != 1 for port in ports):
        return False
    if any(u > v or mode not in ("crossed", "plain") for u, v, mode in edges):
        return False
    if len(set(names)) < len(names) or list(nodes) != sorted(nodes) or list(edges) != sorted(edges):
        return False
    if scalar is None:
        return True
    return type(scalar) is tuple and len(scalar) == 2 and is_whole(scalar[0], -2000, 2000) and is_whole(scalar[1], 0, 7)


def changed(value):
    """Values that differ from a value in a single place of any depth."""
    yield from JUNK
    if type(value) is tuple:
        yield list(value)
        yield value + (value[-1],) if value else (None,)
        yield value + (None,)
        for at, item in enumerate(value):
            yield value[:at] + value[at + 1:]
            for other in changed(item):
                yield value[:at] + (other,) + value[at + 1:]


def with_edges(many):
    """A diagram with one node and this many loops."""
    return (0, (("a", "green", 0),), (("a", "a", "plain"),) * many, (0, 0))


def with_nodes(many):
    names = sorted(one + other for one in "abcdefghij" for other in "abcdefghijkl")[:many]
    return (0, tuple((name, "red", 1) for name in names), (), (0, 0))


def with_ports(count):
    return (count, (("a", "red", 0),), tuple((str(port), "a", "crossed") for port in range(count)), (0, 0))


class Case(unittest.TestCase):
    def check(self, value, wanted):
        """Both functions agree about a value."""
        self.assertIs(is_diagram(value), wanted, value)
        if wanted:
            self.assertIsNone(need_diagram(value))
            return
        with self.assertRaises(BadDiagram) as caught:
            need_diagram(value)
        self.assertIsInstance(caught.exception, InvalidInput)


class Blocks(Case):
    def test_is_diagram(self):
        self.check((1, (), (), None), False)

    def test_need_diagram(self):
        self.check(None, False)

    def test_edge_parity(self):
        self.assertEqual(edge_parity(RED, ("0", "r", "plain")), 1)
        with self.assertRaises(NoEdge) as caught:
            edge_parity(RED, ("0", "r", "crossed"))
        self.assertEqual(caught.exception.edge, ("0", "r", "crossed"))


class Values(Case):
    def test_valid_ones(self):
        for value in VALID:
            self.check(value, True)

    def test_drawn_ones(self):
        for value in draw_many(201, 300, ports=8, nodes=12, edges=25, power=2000):
            self.assertTrue(is_right(value))
            self.check(value, True)

    def test_other_kinds(self):
        for value in OTHER_KINDS:
            self.check(value, False)

    def test_a_change_in_one_place(self):
        found = {True: 0, False: 0}
        for value in VALID + tuple(draw_many(202, 6, ports=4, nodes=4, edges=4)):
            for other in changed(value):
                found[is_right(other)] += 1
                self.check(other, is_right(other))
        self.assertGreater(min(found.values()), 300)

    def test_names_of_nodes(self):
        for name, wanted in (
            ("a", True), ("z", True), ("abcdefgh", True), ("zzzzzzzz", True), ("", False), ("abcdefghi", False),
            ("A", False), ("aB", False), ("a b", False), ("a1", False), ("0", False), ("8", False), ("a\n", False),
            ("\n", False), ("`", False), ("{", False), ("a-", False), ("_", False), ("\u00e9", False), ("a\u00e9", False),
            (b"a", False), (None, False), (True, False), (("a",), False), ("a" * 1000, False),
        ):
            self.check((0, ((name, "green", 0),), (), (0, 0)), wanted)

    def test_colors_and_phases(self):
        for color in ("green", "red", "Green", "blue", "", None, 0, True, ("red",), ["red"], "greenred", "r"):
            for phase in (0, 1, 2, 3, 4, -1, True, False, None, "0", 1.0, 10 ** 30):
                wanted = color in ("green", "red") and type(phase) is int and 0 <= phase <= 3
                self.check((0, (("a", color, phase),), (), (0, 0)), wanted)

    def test_scalars(self):
        for scalar, wanted in (
            (None, True), ((0, 0), True), ((2000, 7), True), ((-2000, 0), True), ((2001, 0), False),
            ((-2001, 0), False), ((0, 8), False), ((0, -1), False), ((True, 0), False), ((0, True), False),
            ([0, 0], False), ((0,), False), ((0, 0, 0), False), (0, False), (False, False), ("", False), ((), False),
        ):
            self.check((0, (), (), scalar), wanted)


class Bounds(Case):
    def test_ports(self):
        for count in range(9):
            self.check(with_ports(count), True)
        for count in (9, 10, 11):
            self.check(with_ports(count), False)
        for count in (-1, True, None, "1", 1.0, (1,)):
            self.check((count,) + with_ports(1)[1:], False)

    def test_nodes(self):
        for many, wanted in ((0, True), (79, True), (80, True), (81, False), (100, False)):
            self.assertEqual(len(with_nodes(many)[1]), many)
            self.check(with_nodes(many), wanted)

    def test_edges(self):
        for many, wanted in ((0, True), (1499, True), (1500, True), (1501, False), (1600, False)):
            self.check(with_edges(many), wanted)

    def test_all_bounds_at_once(self):
        nodes = with_nodes(80)[1]
        edges = tuple((str(port), nodes[port][0], "plain") for port in range(8))
        edges += tuple(sorted((nodes[0][0], nodes[at % 80][0], "crossed") for at in range(1492)))
        for k in (2000, -2000):
            self.check((8, nodes, edges, (k, 7)), True)
            self.check((8, nodes, edges + edges[-1:], (k, 7)), False)
        for k in (2001, -2001):
            self.check((8, nodes, edges, (k, 7)), False)


class Order(Case):
    def test_nodes(self):
        a, b, ab = ("a", "green", 3), ("b", "green", 0), ("ab", "red", 1)
        for nodes, wanted in (
            ((a, b), True), ((b, a), False), ((a, ab, b), True), ((ab, a, b), False), ((a, b, ab), False),
            ((a, a), False), ((a, ("a", "red", 0)), False), ((a, ("a", "green", 3)), False),
            ((("a", "green", 0), ("a", "green", 1)), False),
        ):
            self.check((0, nodes, (), (0, 0)), wanted)

    def test_edges(self):
        nodes = (("a", "green", 0), ("b", "red", 0))
        aa, ab, bb = ("a", "a", "plain"), ("a", "b", "plain"), ("b", "b", "plain")
        crossed = ("a", "b", "crossed")
        for edges, wanted in (
            ((aa, ab, bb), True), ((ab, aa, bb), False), ((aa, bb, ab), False), ((ab, ab), True),
            ((crossed, ab), True), ((ab, crossed), False), ((crossed, ab, crossed), False),
            ((crossed, crossed, ab, ab), True), ((("b", "a", "plain"),), False),
        ):
            self.check((0, nodes, edges, (0, 0)), wanted)

    def test_ports_come_before_nodes_in_an_edge(self):
        node = (("a", "green", 0),)
        self.check((1, node, (("0", "a", "plain"),), (0, 0)), True)
        self.check((1, node, (("a", "0", "plain"),), (0, 0)), False)
        self.check((2, (), (("0", "1", "plain"),), (0, 0)), True)
        self.check((2, (), (("1", "0", "plain"),), (0, 0)), False)


class Ends(Case):
    def test_each_port_name_once(self):
        nodes = (("a", "green", 0), ("b", "green", 0))
        for edges, wanted in (
            ((("0", "1", "plain"),), True),
            ((("0", "a", "plain"), ("1", "a", "plain")), True),
            ((("0", "a", "plain"), ("1", "b", "plain")), True),
            ((), False),
            ((("0", "a", "plain"),), False),
            ((("1", "a", "plain"),), False),
            ((("0", "0", "plain"), ("1", "a", "plain")), False),
            ((("0", "1", "plain"), ("0", "1", "plain")), False),
            ((("0", "1", "plain"), ("0", "a", "plain")), False),
            ((("0", "1", "plain"), ("1", "a", "plain")), False),
            ((("0", "a", "plain"), ("0", "b", "plain"), ("1", "a", "plain")), False),
            ((("0", "a", "plain"), ("1", "a", "plain"), ("2", "a", "plain")), False),
            ((("0", "1", "plain"), ("2", "a", "plain")), False),
            ((("0", "1", "plain"), ("8", "a", "plain")), False),
            ((("00", "a", "plain"), ("1", "a", "plain")), False),
        ):
            self.check((2, nodes, edges, (0, 0)), wanted)

    def test_names_that_nothing_has(self):
        for edge in (("a", "b", "plain"), ("b", "b", "plain"), ("aa", "b", "plain"), ("0", "a", "plain"), ("", "a", "plain")):
            self.check((0, (("a", "green", 0),), (edge,), (0, 0)), False)

    def test_modes(self):
        for mode in ("plain", "crossed", "Plain", "", "cross", None, 0, True, ("plain",), ["plain"], b"plain"):
            self.check((0, (("a", "green", 0),), (("a", "a", mode),), (0, 0)), mode in ("plain", "crossed"))


class Parities(unittest.TestCase):
    def test_each_edge(self):
        found = {0: 0, 1: 0}
        for diagram in draw_many(203, 200, ports=8, nodes=8, edges=20):
            for edge in diagram[2]:
                got = edge_parity(diagram, edge)
                self.assertIs(type(got), int)
                self.assertEqual(got, parity(diagram, edge), (diagram, edge))
                found[got] += 1
        self.assertGreater(min(found.values()), 500)

    def test_by_hand(self):
        nodes = (("g", "green", 0), ("h", "green", 1), ("r", "red", 2), ("s", "red", 3))
        wanted = {
            ("0", "1", "plain"): 0, ("2", "3", "crossed"): 1, ("4", "g", "plain"): 0, ("5", "g", "crossed"): 1,
            ("6", "r", "plain"): 1, ("7", "r", "crossed"): 0, ("g", "g", "plain"): 0, ("g", "g", "crossed"): 1,
            ("r", "r", "plain"): 0, ("r", "r", "crossed"): 1, ("g", "h", "plain"): 0, ("g", "h", "crossed"): 1,
            ("g", "r", "plain"): 1, ("g", "r", "crossed"): 0, ("r", "s", "plain"): 0, ("r", "s", "crossed"): 1,
        }
        for repeats in (1, 3):
            edges = tuple(sorted(edge for edge in wanted for _ in range(1 if edge[0].isdigit() else repeats)))
            for edge, number in wanted.items():
                self.assertEqual(edge_parity((8, nodes, edges, None), edge), number, edge)

    def test_what_is_no_edge(self):
        other = [
            "", "0", None, 0, True, 1.5, b"0", (), ("0",), ("0", "r"), ("0", "r", "crossed"), ("r", "0", "plain"),
            ["0", "r", "plain"], ("0", "r", "plain", 0), (("0", "r", "plain"),), ("0", "r", None), ("1", "r", "plain"),
            (0, "r", "plain"), ("0", "q", "plain"), ("0", "r", ["plain"]), ({}, [], set()), {"0": "r"}, object(), len,
            (("0", "r", "plain"), ("0", "r", "plain")), unittest.mock.ANY, (unittest.mock.ANY,) * 3,
        ]
        for edge in other:
            with self.assertRaises(NoEdge) as caught:
                edge_parity(RED, edge)
            self.assertIs(caught.exception.edge, edge)
        for edge in (("0", "r", "plain"), None, []):
            with self.assertRaises(NoEdge):
                edge_parity(EMPTY, edge)

    def test_the_diagram_comes_first(self):
        for value in OTHER_KINDS:
            for edge in (("0", "r", "plain"), None, []):
                with self.assertRaises(BadDiagram):
                    edge_parity(value, edge)


if __name__ == "__main__":
    unittest.main()
