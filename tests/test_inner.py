"""Inner products: the interface of building.py."""

import random
import unittest

from checking import Case, ODD_VALUES, sized
from drawn import (
    EMPTY, PAIR, RED, ZERO, bar, draw_form, draw_many, draw_mixed, draw_simple, made, plus, scaled, slow_table, times, zero_form,
)

from spiderwires.building import close_port, conjugate, inner_product, join, tensor
from spiderwires.errors import BadDiagram, PortMismatch, TooLarge
from spiderwires.exact import is_number
from spiderwires.tables import table


def slow_inner(one, other):
    """The sum, over all bits, of the conjugate of the entry of one times the entry of other."""
    rows, total = dict(slow_table(other)), ZERO
    for bits, number in slow_table(one):
        total = plus(total, times(bar(number), rows.get(bits, ZERO)))
    return total


class InnerProduct(Case):
    def check(self, one, other):
        found = inner_product(one, other)
        self.assertTrue(is_number(found))
        self.assertEqual(found, slow_inner(one, other), (one, other))
        self.assertEqual(inner_product(other, one), bar(found))
        return found

    def test_block(self):
        self.assertEqual(inner_product(PAIR, PAIR), (2, 0, 0, 0, 0))

    def test_by_hand(self):
        plus_one, other = made(1, ["a green 0"], ["0 a plain"]), made(1, ["a green 1"], ["0 a plain"], (0, 1))
        self.assertEqual(self.check(plus_one, other), (0, 1, 0, 1, 0))
        self.assertEqual(self.check(other, plus_one), (0, -1, 0, -1, 0))
        self.assertEqual(self.check(RED, plus_one), (0, 1, 0, -1, 0))
        self.assertEqual(self.check(EMPTY, (0, (), (), (3, 7))), scaled([1, 0, 0, 0], 3, 7))
        self.assertEqual(self.check((0, (), (), (3, 7)), EMPTY), scaled([1, 0, 0, 0], 3, 1))
        self.assertEqual(self.check(plus_one, made(1, ["a green 2"], ["0 a plain"])), ZERO)

    def test_drawn_ones(self):
        found = draw_many(1001, 400, ports=3, nodes=5, edges=8)
        nonzero = many = 0
        for one, other in zip(found, found[3:]):
            if one[0] == other[0]:
                nonzero += self.check(one, other) != ZERO
                many += 1
        self.assertGreater(min(nonzero, many - nonzero), 15)

    def test_a_diagram_with_itself(self):
        for diagram in draw_many(1002, 60, ports=5, nodes=6, edges=9):
            found = self.check(diagram, diagram)
            self.assertEqual(found == ZERO, slow_table(diagram) == [])

    def test_eight_ports(self):
        source = random.Random(1003)
        for at in range(40):
            one = draw_form(source, 8)
            other = draw_form(source, 8) if at % 2 else draw_mixed(source, 8, 4, 7)
            self.check(one[:3] + ((at - 20, at % 8),), other[:3] + ((at, 3),))

    def test_zero_tables(self):
        self.assertEqual(self.check(zero_form(2), PAIR), ZERO)
        self.assertEqual(self.check(PAIR, zero_form(2)), ZERO)
        self.assertEqual(self.check(zero_form(0), (0, (), (), None)), ZERO)

    def test_the_same_by_joining_ports(self):
        source = random.Random(1004)
        for _ in range(40):
            one, other = draw_simple(source, 3, 5, 6), draw_simple(source, 3, 5, 6)
            both = tensor(conjugate(one), other)
            for place in (3, 2, 1):
                both = join(both, 0, place)
            rows = table(both)
            self.assertEqual(inner_product(one, other), rows[0][1] if rows else ZERO)

    def test_at_the_limits_of_small_diagrams(self):
        for k in (-500, 500):
            for second_k in (-500, 500):
                one, other = PAIR[:3] + ((k, 1),), PAIR[:3] + ((second_k, 4),)
                self.assertEqual(self.check(one, other), scaled([2, 0, 0, 0], k + second_k, 3))
        source = random.Random(1005)
        for at in range(8):
            one = draw_mixed(source, 8, 24, 192 - 8 * (at % 2), 500)
            other = draw_simple(source, 8, 24, 60, 500)
            total, rows = ZERO, dict(table(other))
            for bits, number in table(one):
                total = plus(total, times(bar(number), rows.get(bits, ZERO)))
            self.assertEqual(inner_product(one, other), total)
            bits = next(iter(rows), (0,) * 8)
            closed = sized(0, 0, (0, 0))
            for bit in bits:
                closed = tensor(closed, close_port((2, (), (("0", "1", "plain"),), (0, 0)), 0, bit))
            self.assertEqual(inner_product(closed, other), rows.get(bits, ZERO))

    def test_port_mismatch_then_one_then_other(self):
        small = sized(24, 200, (500, 0))
        large = {24: sized(25, 201, (501, 0)), 200: sized(24, 201, (-501, 0)), 500: sized(24, 200, (501, 0))}
        for limit, diagram in large.items():
            self.fails(TooLarge, limit, inner_product, diagram, small)
            self.fails(TooLarge, limit, inner_product, small, diagram)
            for other in large.values():
                self.fails(TooLarge, limit, inner_product, diagram, other)
            self.fails(PortMismatch, (0, 2), inner_product, diagram, PAIR)
            self.fails(PortMismatch, (1, 0), inner_product, RED, diagram)
        self.fails(PortMismatch, (1, 2), inner_product, RED, PAIR)
        self.fails(PortMismatch, (8, 7), inner_product, zero_form(8), zero_form(7))

    def test_diagrams_come_first(self):
        for value in ODD_VALUES + ((1, (), (), (0, 0)), list(RED)):
            for other in (PAIR, sized(25, 0, (0, 0)), None):
                self.fails(BadDiagram, None, inner_product, value, other)
            for one in (PAIR, sized(25, 0, (0, 0))):
                self.fails(BadDiagram, None, inner_product, one, value)


if __name__ == "__main__":
    unittest.main()
