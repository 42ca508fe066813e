"""Normal forms: point [5], and the interface of forms.py."""

import itertools
import random
import unittest

from drawn import (
    EMPTY, NAMES, PAIR, RED, draw_form, draw_many, draw_mixed, draw_simple, made, scramble, slow_entry, slow_step, slow_table,
    steps_at, well_formed, zero_form,
)

from spiderwires.errors import BadDiagram, ZeroTable
from spiderwires.forms import form, form_steps, leaders
from spiderwires.steps import apply_step, walk

LETTERS = "abcdefgh"


def is_form(diagram):
    """The words of point [5] about the shape of a form."""
    count, nodes, edges, scalar = diagram
    if scalar is None:
        return diagram == zero_form(count)
    phases = {name: phase for name, color, phase in nodes if color == "green"}
    ports = LETTERS[:count]
    others = [letter for letter in ports if "c" + letter in phases]
    heads = [letter for letter in ports if letter not in others]
    if sorted(phases) != sorted(["p" + letter for letter in ports] + ["c" + letter for letter in others]):
        return False
    if any(phases["p" + letter] != 0 or phases["c" + letter] % 2 for letter in others) or len(phases) < len(nodes):
        return False
    needed = {(str(at), "p" + letter, "plain") for at, letter in enumerate(ports)}
    needed |= {("c" + letter, "p" + letter, "crossed") for letter in others}
    free = {("p" + one, "p" + other, "crossed") for one, other in itertools.combinations(heads, 2)}
    free |= {("c" + letter, "p" + head, "crossed") for letter in others for head in heads if head < letter}
    return len(set(edges)) == len(edges) and needed <= set(edges) <= needed | free


def rows_of(normal):
    """The rows of the nonzero entries of a form, in the words of point [5]."""
    count, nodes, edges, _ = normal
    checks = {LETTERS.index(name[1]): phase // 2 for name, _, phase in nodes if name[0] == "c"}
    found = []
    for bits in itertools.product((0, 1), repeat=count):
        wanted = dict(checks)
        for u, v, _ in edges:
            if u[0] == "c" and u[1] != v[1]:
                wanted[LETTERS.index(u[1])] += bits[LETTERS.index(v[1])]
        if all(bits[port] == number % 2 for port, number in wanted.items()):
            found.append(bits)
    return found


def table_leaders(rows, count):
    """The ports whose bits do not follow from the bits before them, for the rows of nonzero entries."""
    return tuple(port for port in range(count)
                 if {0, 1} <= {row[port] for row in rows if row[:port] == rows[0][:port]})


def all_forms(count, scalar=(0, 0)):
    """All forms with this scalar other than the zero form."""
    ports = LETTERS[:count]
    for many in range(count + 1):
        for heads in itertools.combinations(ports, many):
            others = [letter for letter in ports if letter not in heads]
            phases = [range(4) if letter in heads else (0,) for letter in ports] + [(0, 2)] * len(others)
            names = ["p" + letter for letter in ports] + ["c" + letter for letter in others]
            needed = [f"{at} p{letter} plain" for at, letter in enumerate(ports)] + [f"c{at} p{at} crossed" for at in others]
            free = [f"p{one} p{other} crossed" for one, other in itertools.combinations(heads, 2)]
            free += [f"c{letter} p{head} crossed" for letter in others for head in heads if head < letter]
            for chosen in itertools.product(*phases):
                nodes = [f"{name} green {phase}" for name, phase in zip(names, chosen)]
                for taken in itertools.product((False, True), repeat=len(free)):
                    yield made(count, nodes, needed + [edge for edge, used in zip(free, taken) if used], scalar)


class Case(unittest.TestCase):
    def check(self, diagram, exact=True):
        """All that point [5] says of one diagram; return its form."""
        normal = form(diagram)
        self.assertTrue(is_form(normal), (diagram, normal))
        steps = form_steps(diagram)
        self.assertIs(type(steps), tuple)
        self.assertLessEqual(len(steps), 10000)
        self.assertTrue(all(well_formed(step) for step in steps))
        self.assertEqual(walk(diagram, steps), normal, diagram)
        if normal[3] is None or abs(normal[3][0]) <= 500:
            self.assertEqual(form(normal), normal)
            self.assertEqual(form_steps(normal), ())
        if exact:
            rows = slow_table(diagram)
            self.assertEqual(slow_table(normal), rows, diagram)
            self.assertEqual(normal[3] is None, rows == [])
        if normal[3] is None:
            with self.assertRaises(ZeroTable):
                leaders(diagram)
        else:
            rows = rows_of(normal)
            self.assertEqual(leaders(diagram), table_leaders(rows, diagram[0]))
            if exact:
                self.assertEqual(rows, [bits for bits, _ in slow_table(diagram)])
        return normal


class Blocks(Case):
    def test_form(self):
        self.assertEqual(form(RED), (1, (("ca", "green", 2), ("pa", "green", 0)),
                                     (("0", "pa", "plain"), ("ca", "pa", "crossed")), (0, 0)))

    def test_form_steps(self):
        self.assertTrue(walk(RED, form_steps(RED)) == form(RED))

    def test_leaders(self):
        self.assertEqual(leaders(PAIR), (0,))
        with self.assertRaises(ZeroTable):
            leaders((0, (), (), None))


class ByHand(Case):
    def test_forms(self):
        for diagram, wanted in (
            (EMPTY, EMPTY),
            (made(0, ["a red 3"], ["a a crossed"], (5, 6)), (0, (), (), (5, 7))),
            (PAIR, made(2, ["pa green 1", "pb green 0", "cb green 0"], [
                "0 pa plain", "1 pb plain", "cb pa crossed", "cb pb crossed"])),
            ((2, (), (("0", "1", "plain"),), (3, 1)), made(2, ["pa green 0", "pb green 0", "cb green 0"], [
                "0 pa plain", "1 pb plain", "cb pa crossed", "cb pb crossed"], (3, 1))),
            ((2, (), (("0", "1", "crossed"),), (3, 1)), made(2, ["pa green 0", "pb green 0"], [
                "0 pa plain", "1 pb plain", "pa pb crossed"], (3, 1))),
            (made(1, ["a green 2"], ["0 a plain"]), made(1, ["pa green 2"], ["0 pa plain"])),
            (made(1, ["a green 2"], ["0 a crossed"]), made(1, ["pa green 0", "ca green 2"], ["0 pa plain", "ca pa crossed"])),
            (made(1, ["a green 2", "b green 2"], ["0 a plain"]), zero_form(1)),
            ((2, (), (("0", "1", "crossed"),), None), zero_form(2)),
            ((0, (), (), None), zero_form(0)),
        ):
            self.assertEqual(self.check(diagram), wanted)

    def test_leaders(self):
        wires = (("0", "3", "plain"), ("1", "2", "crossed"))
        self.assertEqual(leaders((4, (), wires, (0, 0))), (0, 1, 2))
        nodes = ["a red 0"]
        self.assertEqual(leaders(made(3, nodes, ["0 a plain", "1 a plain", "2 a plain"])), (0, 1))
        self.assertEqual(leaders(made(3, nodes, ["0 a crossed", "1 a crossed", "2 a crossed"])), (0,))
        self.assertEqual(leaders(EMPTY), ())
        self.assertEqual(leaders(RED), ())
        self.assertEqual(leaders(made(1, ["a green 0"], ["0 a plain"])), (0,))


class Drawn(Case):
    def test_many_diagrams(self):
        found = [self.check(diagram) for diagram in draw_many(601, 900, ports=4, nodes=7, edges=12)]
        self.assertTrue(100 < sum(normal[3] is None for normal in found) < 500)
        self.assertGreater(len({normal[:3] for normal in found}), 250)

    def test_ports_alone(self):
        source = random.Random(602)
        for _ in range(100):
            self.check(draw_mixed(source, source.choice((0, 2, 4, 6, 8)), 0, 0))

    def test_few_nodes_with_many_wires(self):
        source = random.Random(603)
        for _ in range(150):
            self.check(draw_mixed(source, source.randint(0, 5), source.randint(1, 3), source.randint(4, 20)))

    def test_each_step_to_the_form(self):
        source = random.Random(604)
        for diagram in draw_many(605, 150, ports=4, nodes=6, edges=9):
            passed = diagram
            before = slow_table(diagram)
            for step in form_steps(diagram):
                passed = slow_step(passed, step)
                self.assertIsNotNone(passed, (diagram, step))
                if source.random() < 0.2 and len(passed[1]) < 13:
                    self.assertEqual(slow_table(passed), before)
            self.assertEqual(passed, form(diagram))

    def test_as_large_as_possible(self):
        source = random.Random(606)
        for at in range(150):
            ports, edges = source.randint(0, 8), source.choice((20, 60, 120, 192))
            if at % 3 == 0:
                diagram = draw_mixed(source, ports, 24, edges, 500)
            else:
                diagram = draw_simple(source, ports, 24, edges, 500, (0, 2) if at % 3 == 1 else (0, 1, 2, 3))
            normal = self.check(diagram, exact=False)
            if at < 24:
                bits = tuple(source.randrange(2) for _ in range(ports))
                self.assertEqual(slow_entry(normal, bits), slow_entry(diagram, bits))

    def test_at_both_ends_of_k(self):
        names = "abcdefghijklmnopqrstuvwx"
        alone = tuple((name, "green", 0) for name in names)
        self.assertEqual(form((0, alone, (), (500, 3))), (0, (), (), (548, 3)))
        loops = (("a", "a", "crossed"),) * 200
        self.assertEqual(form((0, alone, loops, (-500, 3))), (0, (), (), (-500 - 200 + 48, 3)))
        full = tuple((one, other, "crossed") for one, other in itertools.combinations(names, 2))[:200]
        for k in (-500, 500):
            for phases in itertools.product((0, 1, 2, 3), repeat=2):
                nodes = tuple((name, "green", phases[at % 2]) for at, name in enumerate(names))
                self.check((0, nodes, full, (k, 0)), exact=False)


class OneForm(Case):
    def test_one_form_for_one_table_and_two_for_two(self):
        form_of = {}
        seen = 0
        for diagram in draw_many(607, 2500, ports=2, nodes=3, edges=4, power=1):
            key = (diagram[0], tuple(slow_table(diagram)))
            normal = form(diagram)
            seen += key in form_of
            self.assertEqual(form_of.setdefault(key, normal), normal, diagram)
        self.assertEqual(len(set(form_of.values())), len(form_of))
        self.assertGreater(min(seen, len(form_of)), 300)

    def test_steps_do_not_change_the_form(self):
        source = random.Random(608)
        for diagram in draw_many(609, 200, ports=4, nodes=5, edges=8):
            other = scramble(source, diagram, 25)
            self.assertEqual(form(other), form(diagram), (diagram, other))

    def test_all_forms_with_few_ports(self):
        for count, many in ((0, 1), (1, 6), (2, 60)):
            found = list(all_forms(count))
            self.assertEqual(len(set(found)), many)
            self.assertEqual(len({tuple(slow_table(normal)) for normal in found}), many)
            for normal in found:
                self.assertEqual(self.check(normal), normal)
                self.assertEqual(form_steps(normal), ())

    def test_all_forms_with_three_ports(self):
        found = list(all_forms(3, (-3, 5)))
        self.assertEqual(len(found), 1080)
        for normal in found:
            self.assertEqual(form(normal), normal)
            self.assertEqual(form_steps(normal), ())
        self.assertEqual(len({tuple(slow_table(normal)) for normal in found}), 1080)

    def test_the_color_of_a_node_and_names_do_not_matter(self):
        source = random.Random(610)
        for diagram in draw_many(611, 100, ports=3, nodes=5, edges=8):
            wanted = form(diagram)
            for name, _, _ in diagram[1]:
                diagram = apply_step(diagram, ("recolor", name))
                new = source.choice(NAMES)
                if new not in [other for other, _, _ in diagram[1]]:
                    diagram = apply_step(diagram, ("rename", name, new))
            self.assertEqual(form(diagram), wanted)


class FormsOfForms(Case):
    def test_drawn_forms(self):
        source = random.Random(612)
        for _ in range(200):
            normal = draw_form(source, source.randint(0, 8))
            self.assertTrue(is_form(normal))
            self.assertEqual(form(normal), normal)
            self.assertEqual(form_steps(normal), ())

    def test_forms_of_drawn_diagrams(self):
        for diagram in draw_many(613, 200, ports=6, nodes=8, edges=14):
            normal = form(diagram)
            self.assertEqual(form(normal), normal)
            self.assertEqual(form_steps(normal), ())

    def test_zero_forms(self):
        for count in range(9):
            self.assertEqual(form(zero_form(count)), zero_form(count))
            self.assertEqual(form_steps(zero_form(count)), ())

    def test_what_is_almost_a_form(self):
        source = random.Random(614)
        for _ in range(100):
            normal = draw_form(source, source.randint(1, 6))
            for step in steps_at(normal, source):
                other = slow_step(normal, step)
                if other is not None:
                    self.assertNotEqual(form_steps(other), ())
                    self.assertEqual(walk(other, form_steps(other)), normal)

    def test_names_of_forms_at_other_nodes(self):
        nodes = ["pa green 0", "pb green 1", "ca green 2", "cb green 3", "xaa red 0", "xab red 1", "xac green 2"]
        edges = ["0 pb plain", "1 pa plain", "2 cb crossed", "ca pb crossed", "ca xaa plain", "cb xab plain", "xab xac plain",
                 "pa xaa plain", "pb xac crossed"]
        self.check(made(3, nodes, edges))


class Zero(Case):
    def test_by_none_and_by_nodes(self):
        for diagram in (
            RED[:3] + (None,), PAIR[:3] + (None,), (0, (), (), None), made(0, ["a green 2"], []),
            made(1, ["a green 2", "b green 1"], ["0 b plain"]), made(0, ["a green 0"], ["a a crossed"]),
            made(2, ["a green 2"], ["0 1 plain"]), made(0, ["a green 1", "b green 1"], ["a b plain"]),
            made(1, ["a red 1", "b green 2", "c red 3"], ["0 a plain", "a b crossed", "a b crossed", "b c crossed",
                                                         "b c crossed"], None),
        ):
            self.assertEqual(self.check(diagram), zero_form(diagram[0]))

    def test_drawn_ones(self):
        for diagram in draw_many(615, 150, ports=8, nodes=8, edges=14):
            nothing = diagram[:3] + (None,)
            self.assertEqual(self.check(nothing), zero_form(diagram[0]))
            self.assertEqual(form_steps(nothing) == (), nothing == zero_form(diagram[0]))


class Wrong(Case):
    def test_what_is_no_diagram(self):
        for value in (None, True, 0, "", "red", (), [], {}, (1, (), (), (0, 0)), list(RED), RED + (0,), RED[:3] + ((0, 8),)):
            for call in (form, form_steps, leaders):
                with self.assertRaises(BadDiagram):
                    call(value)


if __name__ == "__main__":
    unittest.main()
