"""Comparing diagrams: the interface of compare.py."""

import random
import unittest

from checking import Case, ODD_VALUES, sized
from drawn import (
    EMPTY, NAMES, PAIR, RED, ZERO, all_bits, draw_form, draw_many, draw_mixed, draw_simple, made, scaled, scramble, slow_entry,
    slow_step, slow_table, slow_walk, steps_at, times, well_formed, zero_form,
)

from spiderwires.compare import check_different, check_equal, compare, ratio
from spiderwires.errors import BadDiagram, PortMismatch, TooLarge, ZeroTable
from spiderwires.forms import form, form_steps
from spiderwires.steps import walk

BACK = (2, (("a", "green", 3),), (("0", "a", "plain"), ("1", "a", "plain")), (0, 0))
ONE, I, MINUS_I = (1, 0, 0, 0, 0), (0, 0, 1, 0, 0), (0, 0, -1, 0, 0)
CALLS = (compare, ratio)


def recolored(source, diagram):
    """The diagram with other names and colors, by hand: the modes follow."""
    _, nodes, edges, scalar = diagram
    fresh = source.sample([name for name in NAMES], len(nodes))
    names = {node[0]: name for node, name in zip(nodes, fresh)}
    flipped = [node[0] for node in nodes if source.random() < 0.5]
    other = {"green": "red", "red": "green", "plain": "crossed", "crossed": "plain"}
    new_nodes = [(names[name], other[color] if name in flipped else color, phase) for name, color, phase in nodes]
    new_edges = []
    for u, v, mode in edges:
        mode = other[mode] if (u in flipped) != (v in flipped) else mode
        ends = sorted((names.get(u, u), names.get(v, v)))
        new_edges.append((*ends, mode))
    return (diagram[0], tuple(sorted(new_nodes)), tuple(sorted(new_edges)), scalar)


def changed(source, diagram):
    """The diagram with one phase, mode or scalar changed."""
    count, nodes, edges, scalar = diagram
    kind = source.randrange(3)
    if kind == 0 and nodes:
        at = source.randrange(len(nodes))
        name, color, phase = nodes[at]
        nodes = nodes[:at] + ((name, color, (phase + source.randint(1, 3)) % 4),) + nodes[at + 1:]
    elif kind == 1 and edges:
        at = source.randrange(len(edges))
        u, v, mode = edges[at]
        edges = tuple(sorted(edges[:at] + ((u, v, {"plain": "crossed", "crossed": "plain"}[mode]),) + edges[at + 1:]))
    else:
        scalar = None if scalar is None else (scalar[0] + source.randint(-1, 1), (scalar[1] + source.randrange(8)) % 8)
    return (count, nodes, edges, scalar)


class CompareCase(Case):
    def equal(self, one, other):
        """The word is "equal", and the derivations are what the interface says."""
        result = compare(one, other)
        self.assertEqual((type(result), len(result), result[0]), (tuple, 2, "equal"), (one, other))
        derivations = result[1]
        self.assertEqual((type(derivations), [type(steps) for steps in derivations]), (tuple, [tuple, tuple]))
        for steps in derivations:
            self.assertLessEqual(len(steps), 10000)
            self.assertTrue(all(well_formed(step) for step in steps))
        ends = [slow_walk(one, derivations[0]), slow_walk(other, derivations[1])]
        self.assertIsNotNone(ends[0])
        self.assertEqual(ends[0], ends[1])
        self.assertIs(check_equal(one, other, derivations), True)

    def different(self, one, other):
        """The word is "different", and the witness is what the interface says."""
        result = compare(one, other)
        self.assertEqual((type(result), len(result), result[0]), (tuple, 2, "different"), (one, other))
        self.assertEqual((type(result[1]), len(result[1])), (tuple, 3))
        bits, x, y = result[1]
        self.assertIn(bits, all_bits(one[0]))
        self.assertTrue(all(type(bit) is int for bit in bits))
        self.assertEqual((x, y), (slow_entry(one, bits), slow_entry(other, bits)))
        self.assertNotEqual(x, y)
        self.assertIs(check_different(one, other, result[1]), True)

    def both(self, one, other):
        """Compare in both orders; return whether the tables are the same by their definition."""
        same = slow_table(one) == slow_table(other)
        for pair in ((one, other), (other, one)):
            (self.equal if same else self.different)(*pair)
        return same


class Blocks(CompareCase):
    def test_compare(self):
        self.assertEqual(compare(PAIR, BACK), ("different", ((1, 1), I, MINUS_I)))
        word, derivations = compare(RED, form(RED))
        self.assertEqual((word, check_equal(RED, form(RED), derivations)), ("equal", True))

    def test_check_equal(self):
        self.assertIs(check_equal(RED, RED, ((("recolor", "r"),), ())), False)

    def test_check_different(self):
        self.assertIs(check_different(PAIR, BACK, ((1, 1), I, MINUS_I)), True)
        self.assertIs(check_different(PAIR, PAIR, ((0, 0), ONE, ONE)), False)

    def test_ratio(self):
        self.assertEqual(ratio(RED, RED[:3] + ((1, 2),)), (1, 2))


class Equal(CompareCase):
    def test_after_steps(self):
        source = random.Random(801)
        for diagram in draw_many(802, 150, ports=4, nodes=5, edges=8):
            other = scramble(source, diagram, 20)
            self.equal(diagram, other)
            self.equal(other, diagram)

    def test_other_names_and_colors(self):
        source = random.Random(803)
        for diagram in draw_many(804, 150, ports=5, nodes=8, edges=12):
            other = recolored(source, diagram)
            self.equal(diagram, other)
            self.equal(other, diagram)

    def test_a_diagram_and_itself_and_its_form(self):
        for diagram in draw_many(805, 60, ports=8, nodes=9, edges=14):
            self.equal(diagram, diagram)
            self.equal(diagram, form(diagram))
            self.equal(form(diagram), diagram)

    def test_zero_tables(self):
        zeros = [RED[:3] + (None,), made(1, ["a green 2", "b red 0"], ["0 b plain"]), zero_form(1),
                 made(1, ["a green 0"], ["0 a crossed", "a a crossed", "a a crossed"], None)]
        for one in zeros:
            for other in zeros:
                self.equal(one, other)
        self.equal((0, (), (), None), made(0, ["a red 2"], []))

    def test_large_ones(self):
        source = random.Random(806)
        for at in range(16):
            draw = draw_simple if at % 2 else draw_mixed
            diagram = draw(source, source.randint(0, 8), 24, source.choice((30, 120, 192)), 500)
            other = recolored(source, diagram)
            word, derivations = compare(diagram, other)
            self.assertEqual(word, "equal")
            self.assertLessEqual(max(map(len, derivations)), 10000)
            self.assertEqual(walk(diagram, derivations[0]), walk(other, derivations[1]))


class Different(CompareCase):
    def test_all_pairs_of_some(self):
        found = [diagram for diagram in draw_many(807, 90, ports=1, nodes=3, edges=4, power=1)]
        same = other = 0
        for at, one in enumerate(found):
            for two in found[:at]:
                if one[0] == two[0]:
                    if self.both(one, two):
                        same += 1
                    else:
                        other += 1
        self.assertGreater(min(same, other), 100)

    def test_one_change(self):
        source = random.Random(808)
        words = [self.both(diagram, changed(source, diagram)) for diagram in draw_many(809, 300, ports=4, nodes=6, edges=8)]
        self.assertGreater(min(words.count(True), words.count(False)), 40)

    def test_forms(self):
        source = random.Random(810)
        for _ in range(60):
            count = source.randint(0, 8)
            one, other = draw_form(source, count), draw_form(source, count)
            if one != other:
                self.different(one, other)
                self.different(other, one)
                self.different(one, changed(source, one)[:3] + ((one[3][0], (one[3][1] + 1) % 8),))

    def test_only_one_is_zero(self):
        self.different(PAIR, zero_form(2))
        self.different(zero_form(2), PAIR)
        self.different(EMPTY, (0, (), (), None))

    def test_only_the_scalar_differs(self):
        for k, j in ((1, 0), (-1, 0), (0, 1), (0, 7), (0, 4), (500, 0), (-500, 7)):
            self.different(PAIR, PAIR[:3] + ((k, j),))
            self.different(EMPTY, (0, (), (), (k, j)))

    def test_great_powers(self):
        self.different(PAIR[:3] + ((500, 0),), PAIR[:3] + ((-500, 0),))


class Limits(Case):
    def test_port_mismatch_comes_first(self):
        for call in CALLS:
            for one, other, counts in (
                (PAIR, RED, (2, 1)), (RED, PAIR, (1, 2)), (EMPTY, PAIR, (0, 2)), (zero_form(8), EMPTY, (8, 0)),
                (sized(25, 0, (0, 0)), PAIR, (0, 2)), (PAIR, sized(0, 0, (501, 0)), (2, 0)), (zero_form(1), zero_form(3), (1, 3)),
            ):
                self.fails(PortMismatch, counts, call, one, other)

    def test_then_one_then_other(self):
        small = sized(24, 200, (500, 0))
        large = {24: sized(25, 201, (501, 0)), 200: sized(24, 201, (-501, 0)), 500: sized(24, 200, (-501, 0))}
        for call in CALLS:
            for limit, diagram in large.items():
                self.fails(TooLarge, limit, call, diagram, small)
                self.fails(TooLarge, limit, call, small, diagram)
                for other in large.values():
                    self.fails(TooLarge, limit, call, diagram, other)
        self.assertEqual(compare(small, sized(24, 200, (-500, 0)))[0], "different")
        self.assertEqual(ratio(small, sized(24, 200, (-500, 0))), (-1000, 0))

    def test_diagrams_come_first(self):
        large = sized(25, 0, (0, 0))
        for value in ODD_VALUES + ((1, (), (), (0, 0)), list(RED)):
            for call in CALLS + (lambda one, other: check_equal(one, other, ((), ())),
                                 lambda one, other: check_different(one, other, ((), ONE, I)),
                                 lambda one, other: check_equal(one, other, None),
                                 lambda one, other: check_different(one, other, None)):
                for other in (PAIR, large, None):
                    self.fails(BadDiagram, None, call, value, other)
                for one in (PAIR, large):
                    self.fails(BadDiagram, None, call, one, value)


class CheckEqual(Case):
    def check(self, one, other, derivations, wanted):
        self.assertIs(check_equal(one, other, derivations), wanted, (one, other, derivations))

    def test_any_end_will_do(self):
        source = random.Random(811)
        for diagram in draw_many(812, 80, ports=3, nodes=4, edges=6):
            ends = []
            for _ in range(2):
                steps, passed = [], diagram
                for step in source.sample(steps_at(diagram, source), 1) + [("clear",)]:
                    after = slow_step(passed, step)
                    if after is not None:
                        steps, passed = steps + [step], after
                ends.append((tuple(steps), passed))
            (first, one), (second, other) = ends
            self.check(diagram, diagram, (first, second), one == other)
            self.check(diagram, one, (first, ()), True)
            self.check(one, diagram, ((), first), True)
            self.check(one, diagram, ((), list(first)), True)
            self.check(diagram, diagram, (list(first), first), True)
            self.check(diagram, other, (first, ()), one == other)

    def test_changed_derivations(self):
        source = random.Random(813)
        wrong = (("evaluate",), ("recolor", "none"), None, (), [], "clear", ["clear"], ("Clear",), ("unloop", "a", "odd"), 3)
        seen = {True: 0, False: 0}
        for diagram in draw_many(814, 60, ports=3, nodes=4, edges=6):
            other = scramble(source, diagram, 8)
            good = compare(diagram, other)[1]
            self.check(diagram, other, good, True)
            for side in (0, 1):
                for at, step in enumerate(good[side]):
                    steps = good[side]
                    for more in ((), (step, step), (step, source.choice(steps_at(diagram, source))), (list(step),),
                                 (step, source.choice(wrong)), (source.choice(wrong),)):
                        new = steps[:at] + more + steps[at + 1:]
                        both = (new, good[1]) if side == 0 else (good[0], new)
                        ends = slow_walk(diagram, both[0]), slow_walk(other, both[1])
                        wanted = None not in ends and ends[0] == ends[1]
                        self.check(diagram, other, both, wanted)
                        seen[wanted] += 1
        self.assertGreater(seen[False], 2000)

    def test_lists_in_place_of_tuples(self):
        steps = (("recolor", "r"),)
        self.check(RED, RED, (steps, steps), True)
        self.check(RED, RED, ([("recolor", "r")], steps), True)
        self.check(RED, RED, [steps, steps], False)
        self.check(RED, RED, ((["recolor", "r"],), steps), False)
        self.check(RED, RED, (steps, [["recolor", "r"]]), False)

    def test_every_other_kind(self):
        good = ((), ())
        self.check(RED, RED, good, True)
        for value in (*ODD_VALUES, ((), (), ()), ((),), "()", (None, ()), ((), None), ((), 0), ("", ""), ((), "recolor r"),
                      ({}, {}), (set(), ()), (0, 0), ((("recolor", "r")), ()), (("recolor", "r"), ("recolor", "r")), {(): ()}):
            self.check(RED, RED, value, False)
            self.check(RED, PAIR, value, False)

    def test_unequal_numbers_of_ports(self):
        self.check(EMPTY, PAIR, ((), ()), False)
        clear = (("clear",),)
        self.check(zero_form(1), zero_form(2), (clear, clear), False)
        self.check(zero_form(2), zero_form(2), (clear, clear), True)

    def test_diagrams_that_are_not_small(self):
        full = sized(80, 1500, (2000, 3))
        steps = (("unloop", "aa", "plain"),) * 700
        self.check(full, sized(80, 800, (2000, 3)), (steps, ()), True)
        self.check(full, sized(80, 801, (2000, 3)), (steps, ()), False)
        self.check(full, full, ((), ()), True)
        self.check(full, full[:3] + ((2000, 2),), ((), ()), False)

    def test_beyond_a_bound_on_the_way(self):
        full = sized(80, 10, (2000, 0))
        insert = ("insert", "aa", "aa", "plain", "x", 0)
        self.check(full, full, ((insert, ("drop", "x")), ()), False)
        self.check(sized(79, 10, (2000, 0)), sized(79, 10, (2000, 0)), ((insert, ("drop", "x")), ()), True)
        self.check(full, full, ((("evaluate", "ab"),), (("evaluate", "ab"),)), False)
        self.check(sized(80, 10, (1999, 0)), sized(80, 10, (1999, 0)), ((("evaluate", "ab"),), (("evaluate", "ab"),)), True)
        edges = sized(1, 1500, (0, 0))
        self.check(edges, edges, ((), (insert, ("drop", "x"))), False)
        self.check(sized(1, 1499, (0, 0)), sized(1, 1499, (0, 0)), ((), (insert, ("drop", "x"))), True)


class CheckDifferent(Case):
    def check(self, one, other, witness, wanted):
        self.assertIs(check_different(one, other, witness), wanted, (one, other, witness))

    def test_all_rows(self):
        source = random.Random(815)
        seen = {True: 0, False: 0}
        for diagram in draw_many(816, 120, ports=3, nodes=5, edges=7):
            other = changed(source, diagram)
            rows, second_rows = dict(slow_table(diagram)), dict(slow_table(other))
            for bits in all_bits(diagram[0]):
                x, y = rows.get(bits, ZERO), second_rows.get(bits, ZERO)
                self.check(diagram, other, (bits, x, y), x != y)
                self.check(other, diagram, (bits, y, x), x != y)
                self.check(diagram, other, (bits, y, x), False)
                more = times(x, (0, 1, 0, 0, 0)) if x != ZERO else ONE
                self.check(diagram, other, (bits, more, y), False)
                self.check(diagram, other, (bits, x, times(more, (3, 0, 0, 0, 1))), False)
                seen[x != y] += 1
        self.assertGreater(min(seen.values()), 100)

    def test_another_row(self):
        self.check(PAIR, BACK, ((1, 1), I, MINUS_I), True)
        for bits in ((0, 0), (0, 1), (1, 0)):
            self.check(PAIR, BACK, (bits, I, MINUS_I), False)

    def test_numbers(self):
        for x, y in (((0, 0, 2, 0, 1), MINUS_I), (I, (0, 0, -2, 0, 1)), (I, I), (MINUS_I, I), (I, ZERO), (ZERO, MINUS_I),
                     ((0, 0, True, 0, 0), MINUS_I), ((False, 0, 1, 0, 0), MINUS_I), ([0, 0, 1, 0, 0], MINUS_I), (I, None),
                     ((0, 0, 1, 0), MINUS_I), (I, (0, 0, -1, 0, 0, 0)), (1, -1), ("i", "-i"), (I, (0, 0, -1, 0, -1)),
                     (I, (0, 0, -1, 0, 4001)), (I, (0.0, 0, -1, 0, 0)), (None, None), ((), ())):
            self.check(PAIR, BACK, ((1, 1), x, y), False)

    def test_bits(self):
        for bits in ((True, 1), (1, True), (1, 2), (1,), (1, 1, 1), (), [1, 1], "11", b"11", None, 3, (1, -1), (1, 1.0), {1, 1},
                     range(2), ((1, 1),), (None, 1)):
            self.check(PAIR, BACK, (bits, I, MINUS_I), False)
        self.check(EMPTY, (0, (), (), (0, 4)), ((), ONE, (-1, 0, 0, 0, 0)), True)
        self.check(EMPTY, (0, (), (), (0, 4)), ((0,), ONE, (-1, 0, 0, 0, 0)), False)
        zero, one = made(1, ["a green 0"], ["0 a plain"]), made(1, ["a green 2"], ["0 a plain"])
        self.check(zero, one, ((1,), ONE, (-1, 0, 0, 0, 0)), True)
        self.check(zero, one, ((True,), ONE, (-1, 0, 0, 0, 0)), False)
        self.check(zero, RED, ((False,), ONE, ZERO), False)

    def test_kinds_of_the_witness(self):
        for value in (*ODD_VALUES, [(1, 1), I, MINUS_I], ((1, 1), I), ((1, 1), I, MINUS_I, 0), ((1, 1), I, MINUS_I, MINUS_I),
                      (I, MINUS_I, (1, 1)), {0: (1, 1)}, ((1, 1),), ((), (), ())):
            self.check(PAIR, BACK, value, False)
            self.check(PAIR, RED, value, False)

    def test_unequal_numbers_of_ports(self):
        large = sized(25, 201, (501, 0))
        for one, other, bits in ((PAIR, RED, (1, 1)), (RED, PAIR, (1,)), (PAIR, large, (1, 1)), (large, PAIR, ()), (EMPTY, PAIR, ())):
            self.check(one, other, (bits, I, MINUS_I), False)
            self.check(one, other, None, False)

    def test_the_shape_comes_before_the_size(self):
        small = sized(24, 200, (500, 0), 2)
        large = {24: sized(25, 201, (501, 0), 2), 200: sized(24, 201, (-501, 0), 2), 500: sized(24, 200, (-501, 0), 2)}
        for limit, diagram in large.items():
            for one, other in ((diagram, small), (small, diagram), *((diagram, more) for more in large.values())):
                for witness in (None, [], ((1, 1), I, I), ((1,), I, MINUS_I), ((1, True), I, MINUS_I), ((1, 1), I, (2, 0, 0, 0, 1)),
                                [(1, 1), I, MINUS_I], ((1, 1), I)):
                    self.check(one, other, witness, False)
                self.fails(TooLarge, limit, check_different, one, other, ((1, 1), I, MINUS_I))
        self.check(small, sized(24, 200, (-500, 0), 2), ((1, 1), I, MINUS_I), False)


class Ratio(Case):
    def check(self, one, other, wanted):
        found = ratio(one, other)
        self.assertEqual(found, wanted, (one, other))
        if found is not None:
            self.assertEqual([type(found), *map(type, found)], [tuple, int, int])

    def test_changed_scalars(self):
        source = random.Random(817)
        for diagram in draw_many(818, 150, ports=4, nodes=6, edges=9):
            if slow_table(diagram) and diagram[3] is not None:
                k, j = source.randint(-400, 400), source.randrange(8)
                other = recolored(source, scramble(source, diagram, 6))
                other = other[:3] + ((other[3][0] + k, (other[3][1] + j) % 8),)
                self.check(diagram, other, (k, j))
                self.check(other, diagram, (-k, -j % 8))

    def test_against_the_tables(self):
        source = random.Random(819)
        found = [diagram for diagram in draw_many(820, 200, ports=2, nodes=4, edges=6, power=2) if slow_table(diagram)]
        factors = {times(scaled([1, 0, 0, 0], k, j), ONE): (k, j) for k in range(-30, 31) for j in range(8)}
        seen = {True: 0, False: 0}
        for one in found:
            for other in source.sample(found, 25):
                if one[0] == other[0]:
                    rows, second_rows = slow_table(one), slow_table(other)
                    wanted = [pair for factor, pair in factors.items() if times(rows[0][1], factor) == second_rows[0][1]]
                    wanted = [pair for pair in wanted if second_rows == [
                        (bits, times(number, scaled([1, 0, 0, 0], *pair))) for bits, number in rows]]
                    self.check(one, other, wanted[0] if wanted else None)
                    seen[wanted == []] += 1
        self.assertGreater(min(seen.values()), 100)

    def test_no_factor(self):
        self.check(PAIR, BACK, None)
        self.check(RED, made(1, ["r red 0"], ["0 r plain"]), None)
        self.check(RED, made(1, ["r green 0"], ["0 r plain"]), None)

    def test_the_greatest_and_the_least(self):
        for j in range(8):
            one, other = PAIR[:3] + ((-500, 3),), PAIR[:3] + ((500, (3 + j) % 8),)
            self.check(one, other, (1000, j))
            self.check(other, one, (-1000, -j % 8))
        names = "abcdefghijklmnopqrstuvwx"
        alone = tuple((name, "green", 0) for name in names)
        self.check((0, alone, (("a", "a", "crossed"),) * 200, (-500, 0)), (0, alone, (), (500, 1)), (1200, 1))

    def test_zero_tables_come_last(self):
        large = sized(0, 0, (501, 0))
        zero, hidden = (0, (), (), None), made(0, ["a red 2"], [])
        for one, other in ((zero, EMPTY), (EMPTY, zero), (zero, zero), (hidden, EMPTY), (EMPTY, hidden), (hidden, hidden)):
            self.fails(ZeroTable, None, ratio, one, other)
        for one, other in ((zero, large), (large, zero), (hidden, large), (large, hidden)):
            self.fails(TooLarge, 500, ratio, one, other)
        for one, other in ((zero, PAIR), (PAIR, zero), (zero, zero_form(2))):
            self.fails(PortMismatch, (one[0], other[0]), ratio, one, other)


if __name__ == "__main__":
    unittest.main()
