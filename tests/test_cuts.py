"""Cut ranks and splitting: point [7], and the interface of cuts.py."""

import itertools
import random
import unittest

from checking import Case, NOT_PORTS, ODD_VALUES, all_ports, sized
from drawn import (
    EMPTY, PAIR, RED, ZERO, all_bits, draw_form, draw_many, draw_mixed, draw_simple, made, slow_entry, slow_table, times, zero_form,
)

from spiderwires.building import permute, tensor
from spiderwires.cuts import cut_rank, split
from spiderwires.diagrams import is_diagram
from spiderwires.errors import BadDiagram, BadPorts, TooLarge, ZeroTable
from spiderwires.tables import table

# A prime number that is 1 modulo 8, and an eighth root of one modulo it, in place of w.
PRIME = 998244353
ROOT = pow(3, (PRIME - 1) // 8, PRIME)


def modular(number):
    """A number modulo the prime, for w the root."""
    a, b, c, d, k = number
    return (a + ROOT * (b + ROOT * (c + ROOT * d))) * pow(2, -k, PRIME) % PRIME


def rank(matrix):
    """The rank of a matrix modulo the prime."""
    rows, found = [list(row) for row in matrix], 0
    for column in range(len(rows[0])):
        lead = next((row for row in rows if row[column]), None)
        if lead is not None:
            rows.remove(lead)
            found += 1
            inverse = pow(lead[column], -1, PRIME)
            for row in rows:
                factor = row[column] * inverse
                row[:] = [(a - factor * b) % PRIME for a, b in zip(row, lead)]
    return found


def spread(count, ports, bits, other_bits):
    """The bits of all ports from those of some, in ascending order, and those of the others."""
    bits, other_bits = list(bits), list(other_bits)
    return tuple((bits if port in ports else other_bits).pop(0) for port in range(count))


def slow_rank(rows, count, ports):
    """The rank of the table as a matrix, for a dict of the nonzero entries."""
    values = {bits: modular(number) for bits, number in rows.items()}
    return rank([[values.get(spread(count, ports, bits, other_bits), 0) for other_bits in all_bits(count - len(ports))]
                 for bits in all_bits(len(ports))])


def others_of(count, ports):
    return tuple(port for port in range(count) if port not in ports)


def adjacency_rank(links, ports, others):
    """The rank, modulo 2, of the matrix that tells which of the ports are linked to which of the others."""
    rows, found = [sum(1 << port for port in others if (min(port, one), max(port, one)) in links) for one in ports], 0
    while rows:
        lead = rows.pop()
        found += lead > 0
        rows = [min(row, row ^ lead) if lead else row for row in rows]
    return found


class CutCase(Case):
    def check_split(self, diagram, ports, entries):
        """The two diagrams multiply to the entries, given as a function of bits."""
        found = split(diagram, ports)
        self.assertEqual((type(found), len(found)), (tuple, 2))
        left, right = found
        for side, many in ((left, len(ports)), (right, diagram[0] - len(ports))):
            self.assertTrue(is_diagram(side))
            self.assertEqual(side[0], many)
            self.assertLessEqual(len(side[1]), 24)
            self.assertLessEqual(len(side[2]), 200)
            self.assertTrue(-500 <= side[3][0] <= 500)
        first, second = dict(slow_table(left)), dict(slow_table(right))
        for bits in all_bits(len(ports)):
            for other_bits in all_bits(diagram[0] - len(ports)):
                product = times(first.get(bits, ZERO), second.get(other_bits, ZERO))
                self.assertEqual(product, entries(spread(diagram[0], ports, bits, other_bits)), (diagram, ports))

    def check(self, diagram, ports, rows):
        """All that the interface says of these ports; return the cut rank."""
        found = cut_rank(diagram, ports)
        self.assertIs(type(found), int)
        self.assertEqual(2 ** found, slow_rank(rows, diagram[0], ports), (diagram, ports))
        self.assertEqual(cut_rank(diagram, others_of(diagram[0], ports)), found)
        if found:
            self.assertIsNone(split(diagram, ports))
        else:
            self.check_split(diagram, ports, lambda bits: rows.get(bits, ZERO))
        return found


class Blocks(Case):
    def test_cut_rank(self):
        self.assertEqual(cut_rank(PAIR, (0,)), 1)

    def test_split(self):
        left, right = split(tensor(RED, RED), (1,))
        self.assertEqual(table(left)[0][0], (1,))


class Drawn(CutCase):
    def test_all_ports_of_many_diagrams(self):
        seen = {}
        for diagram in draw_many(1301, 260, ports=4, nodes=6, edges=8):
            rows = dict(slow_table(diagram))
            for ports in all_ports(diagram[0]):
                if rows:
                    found = self.check(diagram, ports, rows)
                    seen[len(ports), found] = seen.get((len(ports), found), 0) + 1
                    if ports in ((), tuple(range(diagram[0]))):
                        self.assertEqual(found, 0)
                else:
                    self.fails(ZeroTable, None, cut_rank, diagram, ports)
                    self.fails(ZeroTable, None, split, diagram, ports)
        for key in ((1, 0), (1, 1), (2, 0), (2, 1), (2, 2), (3, 0), (3, 1)):
            self.assertGreater(seen[key], 10, seen)

    def test_eight_ports(self):
        source = random.Random(1302)
        ranks = set()
        for at in range(24):
            draw = draw_mixed if at % 3 else draw_simple
            diagram = draw(source, 8, source.randint(4, 8), source.randint(4, 14)) if at % 4 else draw_form(source, 8)
            rows = dict(table(diagram))
            for ports in ((), tuple(range(8)), *source.sample(all_ports(8), 5)):
                if rows:
                    found = cut_rank(diagram, ports)
                    ranks.add(found)
                    self.assertEqual(2 ** found, slow_rank(rows, 8, ports))
                    self.assertEqual(cut_rank(diagram, others_of(8, ports)), found)
        self.assertLessEqual({0, 1, 2, 3}, ranks)

    def test_products(self):
        source = random.Random(1303)
        found = [diagram for diagram in draw_many(1304, 120, ports=3, nodes=5, edges=7) if slow_table(diagram)]
        for one, other in zip(found, found[1:]):
            both, count = tensor(one, other), one[0] + other[0]
            order = source.sample(range(count), count)
            ports = tuple(sorted(order.index(port) for port in range(one[0])))
            mixed = permute(both, tuple(order))
            self.assertEqual(cut_rank(mixed, ports), 0)
            rows = dict(table(mixed))
            self.check_split(mixed, ports, lambda bits, rows=rows: rows.get(bits, ZERO))


class ByHand(CutCase):
    def test_wires(self):
        source = random.Random(1305)
        for many in range(5):
            ends = source.sample(range(2 * many), 2 * many)
            pairs = [(ends[2 * at], ends[2 * at + 1]) for at in range(many)]
            diagram = made(2 * many, [], [f"{min(pair)} {max(pair)} {source.choice(('plain', 'crossed'))}" for pair in pairs], (3, 1))
            for ports in all_ports(2 * many):
                cut = sum((one in ports) != (other in ports) for one, other in pairs)
                self.assertEqual(cut_rank(diagram, ports), cut)
                self.assertEqual(split(diagram, ports) is None, cut > 0)

    def test_graphs_of_odd_edges(self):
        source = random.Random(1306)
        for at in range(24):
            count = 8 if at % 2 else source.randint(1, 7)
            links = [pair for pair in itertools.combinations(range(count), 2) if source.random() < source.choice((0.2, 0.5))]
            nodes = [f"{'abcdefgh'[port]} green {source.randrange(4)}" for port in range(count)]
            edges = [f"{port} {'abcdefgh'[port]} plain" for port in range(count)]
            edges += [f"{'abcdefgh'[one]} {'abcdefgh'[other]} crossed" for one, other in links]
            diagram = made(count, nodes, edges)
            for ports in all_ports(count):
                self.assertEqual(cut_rank(diagram, ports), adjacency_rank(links, ports, others_of(count, ports)))

    def test_one_node_at_all_ports(self):
        diagram = made(8, ["a green 1"], [f"{port} a plain" for port in range(8)])
        for ports in all_ports(8):
            self.assertEqual(cut_rank(diagram, ports), 1 if 0 < len(ports) < 8 else 0)

    def test_no_ports(self):
        for diagram in (EMPTY, (0, (), (), (7, 3)), made(0, ["a red 3"], ["a a crossed"])):
            rows = dict(slow_table(diagram))
            self.assertEqual(self.check(diagram, (), rows), 0)


class Sizes(CutCase):
    def test_all_and_none_of_the_ports(self):
        for diagram in draw_many(1307, 60, ports=6, nodes=8, edges=12):
            rows = dict(table(diagram))
            if rows:
                for ports in ((), tuple(range(diagram[0]))):
                    self.assertEqual(cut_rank(diagram, ports), 0)
                    self.check_split(diagram, ports, lambda bits, rows=rows: rows.get(bits, ZERO))

    def test_great_powers(self):
        both = tensor(RED, tensor(PAIR, RED))
        for k in (500, -500, 499, -499):
            for j in range(8):
                diagram = both[:3] + ((k, j),)
                rows = dict(slow_table(diagram))
                for ports in ((), (0,), (3,), (0, 3), (1, 2), (0, 1, 2), (0, 1, 2, 3)):
                    self.assertEqual(self.check(diagram, ports, rows), 0)
                for ports in ((1,), (0, 1), (0, 2, 3)):
                    self.assertEqual(self.check(diagram, ports, rows), 1)

    def test_the_powers_of_forms_that_are_not_small(self):
        names = [one + other for one in "abc" for other in "abcdefgh"]
        loops = [f"{name} {name} crossed" for name in names[8:]] * 12
        heads = [f"{port} {name} plain" for port, name in enumerate(names[:8])]
        for k, edges in ((500, heads), (-500, heads + loops)):
            diagram = made(8, [f"{name} green 0" for name in names], edges, (k, 5))
            self.assertEqual((len(diagram[1]), len(diagram[2])), (24, len(edges)))
            rows = dict(table(diagram))
            for ports in ((), (0,), (0, 1, 2, 3), (2, 5, 7), tuple(range(8))):
                self.assertEqual(cut_rank(diagram, ports), 0)
                self.check_split(diagram, ports, lambda bits, rows=rows: rows.get(bits, ZERO))
        full = made(2, [f"{name} green 0" for name in names], heads[:2] + ["ca ca crossed"] * 198, (-500, 0))
        self.assertEqual(len(full[2]), 200)
        self.check_split(full, (1,), lambda bits: slow_entry(full, bits))

    def test_as_large_as_possible(self):
        source = random.Random(1308)
        for at in range(40):
            draw = draw_mixed if at % 3 == 0 else draw_simple
            power = source.choice((500, -500))
            diagram = draw(source, source.randint(1, 6), 24, source.choice((20, 60, 192)), 500)
            diagram = diagram[:3] + ((power, 3),)
            rows = dict(table(diagram))
            for ports in all_ports(diagram[0]):
                if rows and cut_rank(diagram, ports) == 0:
                    self.check_split(diagram, ports, lambda bits, rows=rows: rows.get(bits, ZERO))


class Errors(Case):
    def test_diagrams_come_first(self):
        for value in ODD_VALUES + ((1, (), (), (0, 0)), list(RED)):
            for ports in ((), (0,), None, (1, 0)):
                self.fails(BadDiagram, None, cut_rank, value, ports)
                self.fails(BadDiagram, None, split, value, ports)

    def test_then_ports(self):
        for diagram in (PAIR, zero_form(2), sized(25, 201, (501, 0), 2)):
            for ports in NOT_PORTS:
                self.fails(BadPorts, None, cut_rank, diagram, ports)
                self.fails(BadPorts, None, split, diagram, ports)
        for diagram in (EMPTY, zero_form(0)):
            for ports in ((0,), (-1,), None, [], "", {}):
                self.fails(BadPorts, None, cut_rank, diagram, ports)
                self.fails(BadPorts, None, split, diagram, ports)

    def test_then_the_size_then_a_zero_table(self):
        for call in (cut_rank, split):
            for ports in ((), (0,), (0, 1)):
                self.fails(TooLarge, 24, call, sized(25, 201, (501, 0), 2), ports)
                self.fails(TooLarge, 200, call, sized(24, 201, (-501, 0), 2), ports)
                self.fails(TooLarge, 500, call, sized(24, 200, (501, 0), 2), ports)
                self.fails(TooLarge, 24, call, sized(25, 9, None, 2), ports)
                self.fails(ZeroTable, None, call, sized(24, 200, None, 2), ports)
                self.fails(ZeroTable, None, call, zero_form(2), ports)
            hidden = (1, (("a", "green", 2), ("b", "green", 0)), (("0", "b", "plain"),), (501, 0))
            self.fails(TooLarge, 500, call, hidden, (0,))
            self.fails(ZeroTable, None, call, hidden[:3] + ((500, 0),), ())
            self.assertIsNotNone(call(sized(24, 200, (500, 0), 2), ()))


if __name__ == "__main__":
    unittest.main()
