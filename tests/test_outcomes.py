"""Chances: point [7], and the interface of outcomes.py."""

import itertools
import math
import random
import unittest

from checking import Case, NOT_PORTS, ODD_VALUES, all_ports, sized
from drawn import (
    EMPTY, PAIR, RED, ZERO, all_bits, bar, draw_form, draw_many, draw_mixed, draw_simple, made, plus, slow_table, times, zero_form,
)

from spiderwires.errors import BadBits, BadDiagram, BadPort, BadPorts, TooLarge, ZeroTable
from spiderwires.outcomes import chance, outcomes
from spiderwires.tables import table


def slow_sums(rows, ports):
    """The sum of |entry| ** 2 for each choice of bits at the ports that has one, and the sum of all."""
    found, total = {}, ZERO
    for bits, number in rows:
        square, key = times(number, bar(number)), tuple(bits[port] for port in ports)
        found[key] = plus(found.get(key, ZERO), square)
        total = plus(total, square)
    return found, total


class OutcomeCase(Case):
    def check(self, diagram, ports, rows):
        """All that the interface says of these ports; return the outcomes."""
        sums, total = slow_sums(rows, ports)
        found = outcomes(diagram, ports)
        self.assertIs(type(found), list)
        self.assertEqual([bits for bits, _ in found], sorted(sums))
        for pair in found:
            self.assertEqual((type(pair), len(pair)), (tuple, 2))
            self.check_chance(pair[1], sums[pair[0]], total)
        return found

    def check_chance(self, found, part, total):
        """A chance is this part of the total, in lowest terms."""
        p, q = found
        self.assertEqual([type(found), type(p), type(q)], [tuple, int, int])
        self.assertEqual(times((q, 0, 0, 0, 0), part), times((p, 0, 0, 0, 0), total))
        self.assertEqual(math.gcd(p, q), 1)
        self.assertTrue(found == (0, 1) or p == 1 and q.bit_count() == 1)

    def check_ports(self, diagram, rows):
        for port in range(diagram[0]):
            sums, total = slow_sums(rows, (port,))
            for bit in (0, 1):
                found = chance(diagram, port, bit)
                self.assertIn(found, ((0, 1), (1, 2), (1, 1)))
                self.check_chance(found, sums.get((bit,), ZERO), total)


class Blocks(Case):
    def test_chance(self):
        self.assertEqual(chance(RED, 0, 1), (1, 1))

    def test_outcomes(self):
        self.assertEqual(outcomes(PAIR, (0, 1)), [((0, 0), (1, 2)), ((1, 1), (1, 2))])


class Drawn(OutcomeCase):
    def test_all_ports_of_many_diagrams(self):
        sizes = set()
        for diagram in draw_many(1401, 300, ports=4, nodes=6, edges=8):
            rows = slow_table(diagram)
            if rows:
                self.check_ports(diagram, rows)
                sizes |= {(len(ports), len(self.check(diagram, ports, rows))) for ports in all_ports(diagram[0])}
            else:
                for ports in all_ports(diagram[0]):
                    self.fails(ZeroTable, None, outcomes, diagram, ports)
        self.assertLessEqual({(0, 1), (1, 1), (1, 2), (2, 1), (2, 2), (2, 4), (3, 1), (3, 8), (4, 2), (4, 16)}, sizes)

    def test_eight_ports(self):
        source = random.Random(1402)
        for at in range(14):
            draw = draw_mixed if at % 3 else draw_simple
            diagram = draw(source, 8, source.randint(4, 8), source.randint(4, 14)) if at % 2 else draw_form(source, 8)
            rows = slow_table(diagram) if at % 2 else table(diagram)
            if rows:
                self.check_ports(diagram, rows)
                for ports in ((), tuple(range(8)), *source.sample(all_ports(8), 4)):
                    self.check(diagram, ports, rows)

    def test_as_large_as_possible(self):
        source = random.Random(1403)
        for at in range(20):
            draw = draw_mixed if at % 3 == 0 else draw_simple
            diagram = draw(source, source.randint(1, 5), 24, source.choice((20, 60, 192)), 500)
            rows = table(diagram)
            if rows:
                self.check_ports(diagram, rows)
                self.check(diagram, tuple(range(diagram[0])), rows)

    def test_a_factor_does_not_matter(self):
        for k, j in ((500, 0), (-500, 3), (1, 7)):
            self.assertEqual(outcomes(PAIR[:3] + ((k, j),), (0,)), [((0,), (1, 2)), ((1,), (1, 2))])
            self.assertEqual(chance(RED[:3] + ((k, j),), 0, 0), (0, 1))


class ByHand(OutcomeCase):
    def test_no_ports(self):
        for diagram in (EMPTY, PAIR, RED, made(0, ["a red 3"], ["a a crossed"], (-3, 5))):
            self.assertEqual(outcomes(diagram, ()), [((), (1, 1))])

    def test_one_port(self):
        even = made(1, ["a green 3"], ["0 a plain"])
        self.assertEqual(outcomes(even, (0,)), [((0,), (1, 2)), ((1,), (1, 2))])
        self.assertEqual([chance(even, 0, bit) for bit in (0, 1)], [(1, 2), (1, 2)])
        self.assertEqual(outcomes(RED, (0,)), [((1,), (1, 1))])
        self.assertEqual([chance(RED, 0, bit) for bit in (0, 1)], [(0, 1), (1, 1)])

    def test_all_rows_of_eight_ports(self):
        diagram = made(8, [f"{name} green {at % 4}" for at, name in enumerate("abcdefgh")],
                       [f"{at} {name} plain" for at, name in enumerate("abcdefgh")])
        self.assertEqual(outcomes(diagram, tuple(range(8))), [(bits, (1, 256)) for bits in all_bits(8)])
        self.assertEqual(outcomes(diagram, (1, 5, 6)), [(bits, (1, 8)) for bits in all_bits(3)])

    def test_a_parity(self):
        diagram = made(4, ["r red 2"], [f"{port} r plain" for port in range(4)])
        odd = [bits for bits in itertools.product((0, 1), repeat=4) if sum(bits) % 2]
        self.assertEqual(outcomes(diagram, (0, 1, 2, 3)), [(bits, (1, 8)) for bits in odd])
        self.assertEqual(outcomes(diagram, (0, 2, 3)), [(bits, (1, 8)) for bits in all_bits(3)])
        self.assertEqual(outcomes(diagram, (3,)), [((0,), (1, 2)), ((1,), (1, 2))])

    def test_a_changed_list_does_not_affect_the_next_call(self):
        for ports in ((), (0,), (0, 1)):
            first = outcomes(PAIR, ports)
            kept = list(first)
            first.append("more")
            first[:1] = []
            self.assertEqual(outcomes(PAIR, ports), kept)
            self.assertIsNot(outcomes(PAIR, ports), outcomes(PAIR, ports))


class Errors(Case):
    def test_diagrams_come_first(self):
        for value in ODD_VALUES + ((1, (), (), (0, 0)), list(RED)):
            for more in ((0, 0), (None, None), (0, 2), (9, 0)):
                self.fails(BadDiagram, None, chance, value, *more)
            for ports in ((), (0,), None, (1, 0)):
                self.fails(BadDiagram, None, outcomes, value, ports)

    def test_then_ports(self):
        for diagram in (PAIR, zero_form(2), sized(25, 201, (501, 0), 2)):
            for ports in NOT_PORTS:
                self.fails(BadPorts, None, outcomes, diagram, ports)
            for port in (2, -1, 8, True, False, None, "0", 0.0, (0,), [0], (), {}, object(), 10 ** 40, b"0"):
                for bit in (0, 1, 2, None, True):
                    self.fails(BadPort, None, chance, diagram, port, bit)
        for diagram in (EMPTY, zero_form(0)):
            self.fails(BadPort, None, chance, diagram, 0, 0)
            for ports in ((0,), (-1,), None, [], "", {}):
                self.fails(BadPorts, None, outcomes, diagram, ports)

    def test_then_bits(self):
        for diagram in (PAIR, zero_form(2), sized(25, 201, (501, 0), 2)):
            for port in (0, 1):
                for bit in (2, -1, True, False, None, "0", "1", 0.0, (0,), [1], (), {}, object(), 10 ** 40):
                    self.fails(BadBits, None, chance, diagram, port, bit)

    def test_then_the_size_then_a_zero_table(self):
        for call, more in ((chance, (1, 0)), (outcomes, ((),)), (outcomes, ((0, 1),))):
            self.fails(TooLarge, 24, call, sized(25, 201, (501, 0), 2), *more)
            self.fails(TooLarge, 200, call, sized(24, 201, (-501, 0), 2), *more)
            self.fails(TooLarge, 500, call, sized(24, 200, (501, 0), 2), *more)
            self.fails(TooLarge, 24, call, sized(25, 9, None, 2), *more)
            self.fails(ZeroTable, None, call, sized(24, 200, None, 2), *more)
            self.fails(ZeroTable, None, call, zero_form(2), *more)
            hidden = (2, (("a", "green", 2), ("b", "green", 0)), (("0", "b", "plain"), ("1", "b", "plain")), (501, 0))
            self.fails(TooLarge, 500, call, hidden, *more)
            self.fails(ZeroTable, None, call, hidden[:3] + ((500, 0),), *more)
            call(sized(24, 200, (500, 0), 2), *more)


if __name__ == "__main__":
    unittest.main()
