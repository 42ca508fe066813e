"""Diagrams from diagrams: the interface of building.py, without inner_product."""

import random
import unittest
from itertools import permutations

from checking import Case, NAMES, ODD_VALUES, sized
from drawn import (
    EMPTY, PAIR, RED, ZERO, all_bits, bar, draw_many, draw_mixed, made, plus, scaled, slow_table, times, zero_form,
)

from spiderwires.building import close_port, conjugate, join, permute, tensor
from spiderwires.diagrams import is_diagram
from spiderwires.errors import BadBits, BadDiagram, BadOrder, BadPort, TooLarge
from spiderwires.tables import table

WIRE = (2, (), (("0", "1", "plain"),), (0, 0))
LINK = (2, (), (("0", "1", "crossed"),), (0, 0))


def named(diagram, names):
    """The diagram with other names of nodes, and all in order."""
    count, nodes, edges, scalar = diagram
    new_nodes = sorted((names[name], color, phase) for name, color, phase in nodes)
    new_edges = sorted((*sorted((names.get(u, u), names.get(v, v))), mode) for u, v, mode in edges)
    return (count, tuple(new_nodes), tuple(new_edges), scalar)


def same_but_names(one, other):
    """Tell whether two diagrams with few nodes differ only in the names of nodes."""
    if one[0] != other[0] or one[3] != other[3] or len(one[1]) != len(other[1]):
        return False
    wanted = [name for name, _, _ in one[1]]
    return any(named(other, dict(zip([name for name, _, _ in other[1]], order))) == one for order in permutations(wanted))


def by_hand(count, nodes, edges, scalar):
    """A diagram from triples in any order, with the ends of edges in any order."""
    found = [(*sorted((u, v)), mode) for u, v, mode in edges]
    return (count, tuple(sorted(nodes)), tuple(sorted(found)), scalar)


def moved(edges, names):
    return [(names.get(u, u), names.get(v, v), mode) for u, v, mode in edges]


def slow_tensor(one, other):
    """The two diagrams side by side; the nodes of other get names in capital letters."""
    names = {name: name.upper() for name, _, _ in other[1]}
    names.update((str(port), str(port + one[0])) for port in range(other[0]))
    nodes = [*one[1], *((name.upper(), color, phase) for name, color, phase in other[1])]
    both = None not in (one[3], other[3])
    scalar = (one[3][0] + other[3][0], (one[3][1] + other[3][1]) % 8) if both else None
    return by_hand(one[0] + other[0], nodes, [*one[2], *moved(other[2], names)], scalar)


def slow_places(diagram, gone, name):
    """The new names of ports where those that are gone give way to a node."""
    left = [port for port in range(diagram[0]) if port not in gone]
    return {str(port): name if port in gone else str(left.index(port)) for port in range(diagram[0])}


def slow_join(diagram, first, second):
    names = slow_places(diagram, (first, second), "NEW")
    return by_hand(diagram[0] - 2, [*diagram[1], ("NEW", "green", 0)], moved(diagram[2], names), diagram[3])


def slow_close(diagram, port, bit):
    names = slow_places(diagram, (port,), "NEW")
    scalar = diagram[3] and (diagram[3][0] - 1, diagram[3][1])
    return by_hand(diagram[0] - 1, [*diagram[1], ("NEW", "red", 2 * bit)], moved(diagram[2], names), scalar)


def put_in(bits, *pairs):
    """The bits with more bits put in, in ascending order of their places."""
    found = list(bits)
    for place, bit in sorted(pairs):
        found.insert(place, bit)
    return tuple(found)


def rows_of(diagram):
    """All entries by their definition."""
    found = dict(slow_table(diagram))
    return {bits: found.get(bits, ZERO) for bits in all_bits(diagram[0])}


class BuildingCase(Case):
    def check(self, found, wanted, exact=False):
        """The result is a diagram, and the wanted one, perhaps but for the names of nodes."""
        self.assertTrue(is_diagram(found), found)
        self.assertTrue(found == wanted if exact else same_but_names(found, wanted), (found, wanted))
        return rows_of(found)


class Blocks(Case):
    def test_tensor(self):
        self.assertEqual(table(tensor(RED, RED)), [((1, 1), (2, 0, 0, 0, 0))])

    def test_join(self):
        self.assertEqual(table(join(PAIR, 0, 1)), [((), (1, 0, 1, 0, 0))])
        self.assertEqual(table(join(WIRE, 0, 1)), [((), (2, 0, 0, 0, 0))])

    def test_permute(self):
        self.fails(BadOrder, None, permute, PAIR, (0, 0))

    def test_conjugate(self):
        self.assertEqual(conjugate(PAIR), (2, (("a", "green", 3),), (("0", "a", "plain"), ("1", "a", "plain")), (0, 0)))

    def test_close_port(self):
        self.assertEqual(table(close_port(PAIR, 1, 1)), [((1,), (0, 0, 1, 0, 0))])
        self.assertEqual(table(close_port(WIRE, 0, 1)), [((1,), (1, 0, 0, 0, 0))])


class Tensor(BuildingCase):
    def check_pair(self, one, other):
        rows = self.check(tensor(one, other), slow_tensor(one, other))
        first, second = rows_of(one), rows_of(other)
        self.assertEqual(rows, {s + t: times(x, y) for s, x in first.items() for t, y in second.items()})

    def test_drawn_ones(self):
        found = draw_many(901, 120, ports=3, nodes=3, edges=5)
        for one, other in zip(found, found[1:]):
            self.check_pair(one, other)

    def test_equal_names(self):
        for diagram in draw_many(902, 40, ports=3, nodes=3, edges=5):
            self.check_pair(diagram, diagram)
        names = "xaa xab xac xad".split()
        one = made(1, [f"{name} green {at}" for at, name in enumerate(names[:3])], ["0 xaa plain", "xaa xac crossed"])
        other = made(2, [f"{name} red {at}" for at, name in enumerate(names[1:])], ["0 xab plain", "1 xad plain", "xab xac plain"])
        self.check_pair(one, other)
        self.check_pair(other, one)

    def test_ports_that_pass_the_nodes_in_order(self):
        self.check_pair(WIRE, LINK)
        self.check_pair(tensor(WIRE, LINK), tensor(LINK, LINK))
        self.check_pair(tensor(WIRE, RED), made(3, ["z red 1"], ["1 2 crossed", "0 z plain"]))

    def test_empty_diagrams(self):
        for diagram in (EMPTY, WIRE, RED, PAIR, zero_form(3)):
            self.assertEqual(tensor(EMPTY, diagram), diagram)
            self.assertEqual(tensor(diagram, EMPTY), diagram)

    def test_scalars(self):
        for first, second, wanted in (((3, 7), (-5, 6), (-2, 5)), ((2000, 1), (-2000, 7), (0, 0)), ((1000, 4), (1000, 4), (2000, 0)),
                                      (None, (3, 1), None), ((3, 1), None, None), (None, None, None), ((-1500, 0), (-500, 0), (-2000, 0))):
            self.assertEqual(tensor((0, (), (), first), (0, (), (), second)), (0, (), (), wanted))

    def test_limits(self):
        for one, other, limit in (
            (sized(3, 8, (0, 0), 5), sized(3, 8, (0, 0), 4), 8), (sized(1, 8, (0, 0), 8), sized(1, 1, (0, 0), 1), 8),
            (sized(40, 0, (0, 0)), sized(41, 0, (0, 0)), 80), (sized(80, 0, (0, 0)), sized(1, 0, (0, 0)), 80),
            (sized(1, 1500, (0, 0)), sized(1, 1, (0, 0)), 1500), (sized(1, 700, (0, 0)), sized(1, 801, (0, 0)), 1500),
            (sized(0, 0, (2000, 0)), sized(0, 0, (1, 0)), 2000), (sized(0, 0, (-2000, 0)), sized(0, 0, (-1, 0)), 2000),
            (sized(0, 0, (1001, 0)), sized(0, 0, (1000, 7)), 2000), (sized(0, 0, (2000, 0)), sized(0, 0, (2000, 0)), 2000),
        ):
            self.fails(TooLarge, limit, tensor, one, other)
            self.fails(TooLarge, limit, tensor, other, one)

    def test_results_at_the_limits(self):
        one, other = sized(40, 750, (1000, 5), 4), sized(40, 750, (1000, 5), 4)
        found = tensor(one, other)
        self.assertTrue(is_diagram(found))
        self.assertEqual((found[0], len(found[1]), len(found[2]), found[3]), (8, 80, 1500, (2000, 2)))
        self.assertEqual(tensor(sized(80, 1500, (-2000, 1), 8), EMPTY), sized(80, 1500, (-2000, 1), 8))
        self.assertEqual(tensor(sized(80, 1500, None, 8), sized(0, 0, (2000, 0)))[3], None)

    def test_the_first_limit_that_is_exceeded(self):
        for ports in (8, 9):
            for nodes in (80, 81):
                for edges in (1500, 1501):
                    for k in (2000, 2001):
                        one, other = sized(40, 750, (1000, 0), 4), sized(nodes - 40, edges - 750, (k - 1000, 0), ports - 4)
                        limits = [limit for limit, size in ((8, ports), (80, nodes), (1500, edges), (2000, k)) if size > limit]
                        if limits:
                            self.fails(TooLarge, limits[0], tensor, one, other)
                            self.fails(TooLarge, limits[0], tensor, other, one)
                        else:
                            self.assertTrue(is_diagram(tensor(one, other)))

    def test_a_scalar_of_none_has_no_limit(self):
        self.assertEqual(tensor((0, (), (), None), (0, (), (), (2000, 0))), (0, (), (), None))
        self.fails(TooLarge, 80, tensor, sized(80, 0, None), sized(1, 0, (0, 0)))


class Join(BuildingCase):
    def check_ports(self, diagram, first, second):
        wanted = slow_join(diagram, first, second)
        rows = self.check(join(diagram, first, second), wanted)
        before = rows_of(diagram)
        for bits, number in rows.items():
            both = [before[put_in(bits, (first, bit), (second, bit))] for bit in (0, 1)]
            self.assertEqual(number, plus(*both))

    def test_drawn_ones(self):
        for diagram in draw_many(903, 90, ports=5, nodes=4, edges=6):
            for first in range(diagram[0]):
                for second in range(diagram[0]):
                    if first != second:
                        self.check_ports(diagram, first, second)

    def test_ports_that_share_an_edge(self):
        for mode in ("plain", "crossed"):
            wire = (2, (), (("0", "1", mode),), (3, 2))
            self.check_ports(wire, 0, 1)
            self.check_ports(wire, 1, 0)
            four = made(4, [], [f"0 2 {mode}", "1 3 crossed"])
            for first, second in permutations(range(4), 2):
                self.check_ports(four, first, second)

    def test_names_that_are_taken(self):
        names = "n new a b xaa xab xac x".split()
        for many in (3, 4, 5):
            self.check_ports(made(2, [f"{name} green 0" for name in names[-many:]], ["0 xab plain", "1 x plain"]), 0, 1)

    def test_a_scalar_of_none(self):
        self.check_ports(PAIR[:3] + (None,), 1, 0)

    def test_limits(self):
        full = sized(80, 1500, (2000, 0), 2)
        self.fails(TooLarge, 80, join, full, 0, 1)
        self.fails(TooLarge, 80, join, sized(80, 2, None, 2), 1, 0)
        found = join(sized(79, 1500, (2000, 3), 8), 7, 0)
        self.assertTrue(is_diagram(found))
        self.assertEqual((found[0], len(found[1]), len(found[2]), found[3]), (6, 80, 1500, (2000, 3)))

    def test_second_equals_first(self):
        for diagram in (PAIR, RED, sized(80, 1500, (0, 0), 8)):
            for port in range(diagram[0]):
                self.fails(BadPort, None, join, diagram, port, port)


class Permute(BuildingCase):
    def test_drawn_ones(self):
        source = random.Random(904)
        for diagram in draw_many(905, 60, ports=4, nodes=4, edges=7):
            before = rows_of(diagram)
            for order in permutations(range(diagram[0])):
                names = {str(port): str(place) for place, port in enumerate(order)}
                wanted = by_hand(diagram[0], diagram[1], moved(diagram[2], names), diagram[3])
                rows = self.check(permute(diagram, order), wanted, exact=True)
                for bits, number in rows.items():
                    self.assertEqual(number, before[tuple(bits[order.index(port)] for port in range(diagram[0]))])
                back = tuple(order.index(port) for port in range(diagram[0]))
                self.assertEqual(permute(permute(diagram, order), back), diagram)
        for diagram in (draw_mixed(source, 8, 5, 8) for _ in range(20)):
            order = tuple(source.sample(range(8), 8))
            bits = tuple(source.randrange(2) for _ in range(8))
            placed = tuple(bits[order.index(port)] for port in range(8))
            self.assertEqual(rows_of(permute(diagram, order))[bits], rows_of(diagram)[placed])

    def test_by_hand(self):
        three = made(3, ["a green 1", "b green 2", "c green 3"], ["0 a plain", "1 b plain", "2 c plain"])
        self.assertEqual(permute(three, (1, 2, 0)), made(3, ["a green 1", "b green 2", "c green 3"], [
            "0 b plain", "1 c plain", "2 a plain"]))
        self.assertEqual(permute(made(4, [], ["0 3 crossed", "1 2 plain"]), (3, 1, 2, 0)), made(4, [], ["0 3 crossed", "1 2 plain"]))
        self.assertEqual(permute(EMPTY, ()), EMPTY)

    def test_large_ones(self):
        full = sized(80, 1500, (2000, 7), 8)
        self.assertEqual(permute(full, (7, 6, 5, 4, 3, 2, 1, 0)), full)
        self.assertEqual(permute(full[:3] + (None,), tuple(range(8))), full[:3] + (None,))

    def test_orders(self):
        for order in (*ODD_VALUES, (0,), (1, 0, 2), (0, 2), (-1, 0), (1, 1), (0, 0), [0, 1], [1, 0], "01", (False, True), (0, True),
                      (0, 1.0), ("0", "1"), (None, 0), ((0, 1),), range(2), {0: 1, 1: 0}, (0, 10 ** 30)):
            self.fails(BadOrder, None, permute, PAIR, order)
        for order in ((0,), [], None, "", {}, (None,)):
            self.fails(BadOrder, None, permute, EMPTY, order)
        self.fails(BadOrder, None, permute, RED, (False,))


class Conjugate(BuildingCase):
    def test_drawn_ones(self):
        for diagram in draw_many(906, 150, ports=4, nodes=5, edges=8):
            count, nodes, edges, scalar = diagram
            wanted = (count, tuple((name, color, (4 - phase) % 4) for name, color, phase in nodes), edges,
                      scalar and (scalar[0], (8 - scalar[1]) % 8))
            rows = self.check(conjugate(diagram), wanted, exact=True)
            self.assertEqual(rows, {bits: bar(number) for bits, number in rows_of(diagram).items()})
            self.assertEqual(conjugate(conjugate(diagram)), diagram)

    def test_by_hand(self):
        nodes = [f"{name} {color} {{}}" for name, color in zip("abcd", ("green", "red", "green", "red"))]
        one = made(0, [node.format(at) for at, node in enumerate(nodes)], ["a b crossed"], (-7, 3))
        self.assertEqual(conjugate(one), made(0, [node.format(-at % 4) for at, node in enumerate(nodes)], ["a b crossed"], (-7, 5)))
        for j in range(8):
            self.assertEqual(conjugate((0, (), (), (2000, j))), (0, (), (), (2000, (8 - j) % 8)))
        self.assertEqual(conjugate(zero_form(2)), zero_form(2))

    def test_large_ones(self):
        full = sized(80, 1500, (-2000, 0), 8)
        self.assertEqual(conjugate(conjugate(full)), full)
        self.assertEqual({phase for _, _, phase in conjugate(full)[1]}, {3})


class ClosePort(BuildingCase):
    def test_drawn_ones(self):
        for diagram in draw_many(907, 120, ports=5, nodes=4, edges=7):
            before = rows_of(diagram)
            for port in range(diagram[0]):
                for bit in (0, 1):
                    rows = self.check(close_port(diagram, port, bit), slow_close(diagram, port, bit))
                    self.assertEqual(rows, {bits: before[put_in(bits, (port, bit))] for bits in rows})

    def test_edges_between_ports(self):
        for diagram in (WIRE, LINK, made(4, [], ["0 2 plain", "1 3 crossed"]), made(3, ["a red 1"], ["0 2 crossed", "1 a plain"])):
            for port in range(diagram[0]):
                for bit in (0, 1):
                    rows = self.check(close_port(diagram, port, bit), slow_close(diagram, port, bit))
                    self.assertEqual(rows, {bits: rows_of(diagram)[put_in(bits, (port, bit))] for bits in rows})

    def test_all_ports(self):
        diagram = made(3, ["a green 1", "b red 3"], ["0 a plain", "1 a plain", "2 b crossed", "a b crossed"], (5, 1))
        for bits in all_bits(3):
            closed = diagram
            for bit in bits:
                closed = close_port(closed, 0, bit)
            self.assertEqual(rows_of(closed), {(): rows_of(diagram)[bits]})

    def test_limits(self):
        self.fails(TooLarge, 80, close_port, sized(80, 8, (0, 0), 1), 0, 1)
        self.fails(TooLarge, 80, close_port, sized(80, 8, (-2000, 0), 1), 0, 1)
        self.fails(TooLarge, 80, close_port, sized(80, 8, None, 1), 0, 0)
        self.fails(TooLarge, 2000, close_port, sized(79, 8, (-2000, 0), 1), 0, 0)
        found = close_port(sized(79, 1500, (-1999, 6), 8), 3, 1)
        self.assertTrue(is_diagram(found))
        self.assertEqual((found[0], len(found[1]), len(found[2]), found[3]), (7, 80, 1500, (-2000, 6)))
        self.assertEqual(close_port(sized(2, 8, None, 1), 0, 1)[3], None)
        self.assertEqual(close_port(sized(2, 8, (2000, 1), 1), 0, 1)[3], (1999, 1))

    def test_bits(self):
        for bit in (None, True, False, 2, -1, "0", "1", (0,), [1], 0.0, 1.0, b"1", {}, object(), (), ""):
            self.fails(BadBits, None, close_port, PAIR, 0, bit)


class Wrong(Case):
    def test_diagrams(self):
        for value in ODD_VALUES + ((1, (), (), (0, 0)), list(RED)):
            for other in (RED, sized(80, 1500, (2000, 0), 8), None, 0):
                self.fails(BadDiagram, None, tensor, value, other)
            for one in (RED, sized(80, 1500, (2000, 0), 8)):
                self.fails(BadDiagram, None, tensor, one, value)
            for port, more in ((0, 1), (None, None), (0, 0), ("0", 7)):
                self.fails(BadDiagram, None, join, value, port, more)
                self.fails(BadDiagram, None, close_port, value, port, more)
            for order in ((0,), None, (), (0, 0)):
                self.fails(BadDiagram, None, permute, value, order)
            self.fails(BadDiagram, None, conjugate, value)

    def test_ports(self):
        full = sized(80, 1500, (-2000, 0), 2)
        for diagram in (PAIR, full):
            for port in (2, 3, 8, -1, -2, 10 ** 40, True, False, None, "0", "a", 0.0, (0,), [0], (), "", b"0", {}, object()):
                for other in (0, 1, 2, None, port):
                    self.fails(BadPort, None, join, diagram, port, other)
                for other in (0, 1):
                    self.fails(BadPort, None, join, diagram, other, port)
                for bit in (0, 1, 2, None, True):
                    self.fails(BadPort, None, close_port, diagram, port, bit)
            for bit in (2, None, True, "0", (0,)):
                self.fails(BadBits, None, close_port, diagram, 0, bit)
            self.fails(BadOrder, None, permute, diagram, (0, 2))
        self.fails(BadPort, None, join, EMPTY, 0, 1)
        self.fails(BadPort, None, close_port, EMPTY, 0, 0)
        self.fails(BadPort, None, join, RED, 0, 1)


class Names(Case):
    def test_many_names_that_are_taken(self):
        one = (0, tuple((f"x{a}{b}", "green", 1) for a in "abc" for b in "abcdefghijklm"), (), (0, 0))
        found = tensor(one, one)
        self.assertTrue(is_diagram(found))
        self.assertEqual(len(found[1]), 78)
        ports = (2, one[1], (("0", "xaa", "plain"), ("1", "xab", "plain")), (0, 0))
        self.assertTrue(is_diagram(join(ports, 0, 1)))
        self.assertTrue(is_diagram(close_port(ports, 0, 1)))
        self.assertEqual(len(NAMES), 80)
        self.assertTrue(is_diagram(tensor(sized(40, 3, (0, 0)), sized(40, 3, (0, 0)))))

    def test_great_powers_of_the_entries(self):
        self.assertEqual(table(tensor((0, (), (), (300, 1)), (0, (), (), (200, 1)))), [((), scaled([1, 0, 0, 0], 500, 2))])


if __name__ == "__main__":
    unittest.main()
