"""Tables against their definition: point [3], and the interface of tables.py."""

import random
import unittest

from drawn import (
    EMPTY, PAIR, RED, ZERO, all_bits, draw_many, draw_mixed, draw_simple, made, scaled, slow_entry, slow_table, zero_form,
)

from spiderwires.errors import BadBits, BadDiagram, TooLarge
from spiderwires.exact import is_number
from spiderwires.tables import entry, table

ROOT = (0, 1, 0, -1, 0)


class Case(unittest.TestCase):
    def check(self, diagram):
        """Both functions agree with the definition; return the table."""
        wanted = slow_table(diagram)
        found = table(diagram)
        self.assertEqual(found, wanted, diagram)
        self.assertIs(type(found), list)
        rows = dict(wanted)
        for bits in all_bits(diagram[0]):
            number = entry(diagram, bits)
            self.assertEqual(number, rows.get(bits, ZERO), (diagram, bits))
            self.assertTrue(is_number(number) and all(type(item) is int for item in number))
        return found


class Blocks(Case):
    def test_entry(self):
        self.assertEqual(entry(RED, (1,)), ROOT)

    def test_table(self):
        self.assertEqual(table(PAIR), [((0, 0), (1, 0, 0, 0, 0)), ((1, 1), (0, 0, 1, 0, 0))])

    def test_the_example_of_the_point(self):
        self.assertEqual(entry(RED, (0,)), ZERO)
        self.assertEqual(table(RED), [((1,), ROOT)])


class ByHand(Case):
    def test_diagrams_without_nodes(self):
        half = (0, 1, 0, -1, 1)
        minus = (0, -1, 0, 1, 1)
        self.assertEqual(self.check(EMPTY), [((), (1, 0, 0, 0, 0))])
        self.assertEqual(self.check((0, (), (), None)), [])
        self.assertEqual(self.check((0, (), (), (-3, 5))), [((), (-1, 0, -1, 0, 2))])
        self.assertEqual(self.check((2, (), (("0", "1", "plain"),), (0, 0))),
                         [((0, 0), (1, 0, 0, 0, 0)), ((1, 1), (1, 0, 0, 0, 0))])
        self.assertEqual(self.check((2, (), (("0", "1", "crossed"),), (0, 0))),
                         [((0, 0), half), ((0, 1), half), ((1, 0), half), ((1, 1), minus)])

    def test_one_node(self):
        for phase, number in enumerate(((2, 0, 0, 0, 0), (1, 0, 1, 0, 0), ZERO, (1, 0, -1, 0, 0))):
            for color in ("green", "red"):
                self.assertEqual(entry(made(0, [f"a {color} {phase}"], []), ()), number)
                self.assertEqual(entry(made(0, [f"a {color} {phase}"], ["a a plain"]), ()), number)
        self.assertEqual(entry(made(0, ["a green 0"], ["a a crossed"]), ()), ZERO)
        self.assertEqual(entry(made(0, ["a red 2"], ["a a crossed"]), ()), ROOT)

    def test_a_scalar_multiplies_each_entry(self):
        for k in (-500, -3, 0, 7, 500):
            for j in range(8):
                diagram = PAIR[:3] + ((k, j),)
                one, other = scaled([1, 0, 0, 0], k, j), scaled([0, 0, 1, 0], k, j)
                self.assertEqual(self.check(diagram), [((0, 0), one), ((1, 1), other)])
        self.assertEqual(self.check(PAIR[:3] + (None,)), [])

    def test_the_bits_belong_to_the_ports_in_order(self):
        nodes = ["a green 1", "b green 2", "c green 3"]
        diagram = made(3, nodes, ["0 c plain", "1 a plain", "2 b plain"])
        self.assertEqual(entry(diagram, (1, 0, 0)), (0, 0, -1, 0, 0))
        self.assertEqual(entry(diagram, (0, 1, 0)), (0, 0, 1, 0, 0))
        self.assertEqual(entry(diagram, (0, 0, 1)), (-1, 0, 0, 0, 0))
        self.check(diagram)


class Drawn(Case):
    def test_many_diagrams(self):
        found = [self.check(diagram) for diagram in draw_many(501, 700, ports=4, nodes=7, edges=12)]
        zero = sum(not rows for rows in found)
        self.assertTrue(50 < zero < 400, zero)
        sizes = {len(rows) for rows in found}
        self.assertLessEqual({1, 2, 4, 8, 16}, sizes)

    def test_great_scalars(self):
        for diagram in draw_many(502, 150, ports=2, nodes=4, edges=6, power=500):
            self.check(diagram)

    def test_eight_ports(self):
        source = random.Random(503)
        sizes = set()
        for at in range(60):
            nodes, edges = source.randint(1, 9), source.randint(0, 16)
            draw = draw_simple if at % 2 else draw_mixed
            diagram = draw(source, 8, nodes, edges)
            found = table(diagram)
            self.assertEqual(found, slow_table(diagram))
            sizes.add(len(found))
            for bits in source.sample(all_bits(8), 3):
                self.assertEqual(entry(diagram, bits), dict(found).get(bits, ZERO))
        self.assertGreater(len(sizes), 6)

    def test_all_rows_of_eight_ports(self):
        diagram = made(8, [f"{name} green {at % 4}" for at, name in enumerate("abcdefgh")], [
            *(f"{at} {name} plain" for at, name in enumerate("abcdefgh")), "a b crossed", "c h crossed", "d e crossed"])
        self.assertEqual(len(self.check(diagram)), 256)
        self.assertEqual(self.check(diagram[:3] + (None,)), [])

    def test_as_large_as_possible(self):
        source = random.Random(504)
        nonzero = 0
        for at in range(12):
            ports = source.randint(0, 8)
            draw = draw_mixed if at % 3 == 0 else draw_simple
            diagram = draw(source, ports, 24, source.choice((30, 80, 190)), 500)
            for bits in [tuple(source.randrange(2) for _ in range(ports)), *[bits for bits, _ in table(diagram)][-1:]]:
                wanted = slow_entry(diagram, bits)
                nonzero += wanted != ZERO
                self.assertEqual(entry(diagram, bits), wanted)
        self.assertGreater(nonzero, 4)


class Zero(Case):
    def test_by_none_and_by_nodes(self):
        for diagram in (
            RED[:3] + (None,), zero_form(3), made(0, ["a green 2"], []), made(0, ["a red 2"], ["a a plain"]),
            made(1, ["a green 2", "b green 1"], ["0 b plain"]), made(0, ["a green 0"], ["a a crossed"]),
            made(2, ["a green 2", "b red 3"], ["0 1 plain", "a b crossed", "a b plain"], None),
            made(2, ["a green 0", "b green 2"], ["0 1 plain", "a b plain"]),
            made(2, ["a green 0", "b green 1", "c green 1"], ["0 1 crossed", "a b plain", "a c plain"]),
        ):
            self.assertEqual(self.check(diagram), [], diagram)
            self.assertEqual(entry(diagram, (0,) * diagram[0]), ZERO)


class Results(Case):
    def test_a_changed_list_does_not_affect_the_next_call(self):
        for diagram in (PAIR, EMPTY, zero_form(1)):
            first = table(diagram)
            kept = list(first)
            first.append("more")
            first[:1] = []
            self.assertEqual(table(diagram), kept)
            self.assertIsNot(table(diagram), table(diagram))


class Wrong(Case):
    def test_bits(self):
        for bits in (
            None, 0, 1, True, "", "0", "01", b"01", [], [0, 1], (), (0,), (1,), (0, 1, 0), (0, 2), (2, 0), (-1, 0), (0, True),
            (False, 0), (0, None), ("0", "1"), (0, 0.0), ((0, 1),), ((0,), (1,)), {0: 1, 1: 0}, {0, 1}, range(2), object(),
        ):
            with self.assertRaises(BadBits):
                entry(PAIR, bits)
            with self.assertRaises(BadBits):
                entry(PAIR[:3] + (None,), bits)
        for bits in ((0,), (1,), None, [], "", 0, (0, 0)):
            with self.assertRaises(BadBits):
                entry(EMPTY, bits)

    def test_the_diagram_comes_first_and_the_size_last(self):
        large = PAIR[:3] + ((501, 0),)
        for value in (None, (), [], 0, "", (1, (), (), (0, 0)), list(PAIR), PAIR[:3] + ((2001, 0),)):
            for bits in ((0, 0), None, [0, 0], (0, 2)):
                with self.assertRaises(BadDiagram):
                    entry(value, bits)
            with self.assertRaises(BadDiagram):
                table(value)
        for bits in (None, [0, 0], (0, 2), (0,), (0, 0, 0)):
            with self.assertRaises(BadBits):
                entry(large, bits)
        for call in (lambda: entry(large, (0, 0)), lambda: table(large)):
            with self.assertRaises(TooLarge) as caught:
                call()
            self.assertEqual(caught.exception.limit, 500)


if __name__ == "__main__":
    unittest.main()
