"""Derivations: point [4], and walk."""

import random
import unittest

from drawn import EMPTY, NAMES, PAIR, RED, draw_many, made, slow_step, slow_table, steps_at

from spiderwires.errors import BadDiagram, BadStep
from spiderwires.steps import apply_step, walk

OTHER_KINDS = (
    None, True, False, 0, 3, 1.5, "", "clear", "recolor r", b"", {}, {"clear": 1}, {0: ("clear",)}, set(), frozenset(),
    object(), len, range(0), range(3), iter(()),
)


def draw_diagrams(seed, many, nodes):
    """Diagrams at which some step is valid."""
    return [diagram for diagram in draw_many(seed, many, ports=3, nodes=nodes, edges=7) if diagram[1] or diagram[2]]


def draw_walk(source, diagram, many):
    """Valid steps, and the diagrams before and after each."""
    taken, passed = [], [diagram]
    while len(taken) < many:
        step = source.choice(steps_at(passed[-1], source))
        after = slow_step(passed[-1], step)
        # Without nodes and edges, no more steps would be valid.
        if after is not None and len(after[1]) < 8 and (after[1] or after[2]):
            taken.append(step)
            passed.append(after)
    return taken, passed


class Case(unittest.TestCase):
    def bad(self, diagram, steps, index):
        with self.assertRaises(BadStep, msg=(diagram, steps)) as caught:
            walk(diagram, steps)
        self.assertEqual((type(caught.exception.index), caught.exception.index), (int, index))


class Blocks(Case):
    def test_walk(self):
        self.bad(RED, [("recolor", "r"), ("evaluate", "r")], 1)


class Valid(Case):
    def test_no_steps(self):
        for diagram in draw_many(401, 40):
            self.assertEqual(walk(diagram, ()), diagram)
            self.assertEqual(walk(diagram, []), diagram)

    def test_drawn_ones(self):
        source = random.Random(402)
        for diagram in draw_diagrams(403, 100, 4):
            steps, passed = draw_walk(source, diagram, 12)
            for end in (1, 5, 12):
                self.assertEqual(walk(diagram, tuple(steps[:end])), passed[end])
                self.assertEqual(walk(diagram, list(steps[:end])), passed[end])
            self.assertEqual(walk(passed[5], steps[5:]), passed[12])
            self.assertEqual(slow_table(passed[12]), slow_table(diagram))

    def test_each_step_works_on_the_result_of_the_one_before(self):
        steps = (("recolor", "r"), ("rename", "r", "s"), ("insert", "0", "s", "crossed", "r", 1), ("drop", "r"),
                 ("recolor", "s"), ("rename", "s", "r"))
        self.assertEqual(walk(RED, steps), RED)

    def test_many_steps(self):
        steps = [("recolor", "r"), ("insert", "0", "r", "crossed", "n", 1), ("drop", "n"), ("recolor", "r")] * 2500
        self.assertEqual(walk(RED, steps), RED)
        self.bad(RED, steps + [("drop", "n")], 10000)

    def test_a_list_of_steps_stays_as_it_is(self):
        steps = [("recolor", "r"), ("rename", "r", "s")]
        walk(RED, steps)
        self.assertEqual(steps, [("recolor", "r"), ("rename", "r", "s")])
        steps.append(("rename", "r", "s"))
        self.bad(RED, steps, 2)
        self.assertEqual(steps, [("recolor", "r"), ("rename", "r", "s"), ("rename", "r", "s")])


class NotValid(Case):
    def test_the_first_step_that_fails(self):
        source = random.Random(404)
        wrong = (("recolor", "none"), ("evaluate",), None, [], ["clear"], ["recolor", "a"], "clear", 0, ("Clear",), ())
        for diagram in draw_diagrams(405, 60, 4):
            steps, _ = draw_walk(source, diagram, 8)
            for index in range(9):
                longer = steps[:index] + [source.choice(wrong)] + steps[index:] + [source.choice(wrong)]
                self.bad(diagram, longer, index)
                self.bad(diagram, tuple(longer), index)

    def test_a_step_that_is_valid_elsewhere(self):
        source = random.Random(406)
        seen = 0
        for diagram in draw_diagrams(407, 100, 4):
            steps, passed = draw_walk(source, diagram, 6)
            for step in steps_at(diagram, source):
                if slow_step(diagram, step) is not None and slow_step(passed[6], step) is None:
                    self.bad(diagram, steps + [step, ("clear",)], 6)
                    seen += 1
        self.assertGreater(seen, 500)

    def test_beyond_a_bound_on_the_way(self):
        nodes = [f"q{one}{other} green 0" for one in "abcdefgh" for other in "abcdefghij"]
        step = ("insert", "0", "1", "plain", "a", 0)
        steps = [("evaluate", "qaa"), step, ("drop", "a"), step, ("drop", "a")]
        full = made(2, nodes, ["0 1 plain"])
        self.assertEqual(walk(full, steps), made(2, nodes[1:], ["0 1 plain"], (2, 0)))
        self.bad(full, steps[1:], 0)
        self.bad(made(2, nodes, ["0 1 plain"], (1998, 0)), [steps[0], ("evaluate", "qab"), ("clear",)], 1)
        edges = ["a a plain"] * 1500
        insert = ("insert", "a", "a", "plain", "b", 0)
        unloop = ("unloop", "a", "plain")
        self.bad(made(0, ["a green 0"], edges), [insert, ("drop", "b")], 0)
        self.bad(made(0, ["a green 0"], edges), [unloop, insert, ("insert", "a", "b", "plain", "c", 0), ("drop", "b")], 2)
        self.assertEqual(walk(made(0, ["a green 0"], edges), [unloop, insert, ("drop", "b")]),
                         made(0, ["a green 0"], edges[1:]))

    def test_other_kinds(self):
        for steps in OTHER_KINDS:
            for diagram in (EMPTY, RED, PAIR):
                self.bad(diagram, steps, 0)

    def test_one_step_is_no_derivation(self):
        self.bad(RED, ("recolor", "r"), 0)
        self.bad(RED, ["recolor", "r"], 0)

    def test_the_diagram_comes_first(self):
        for value in (None, (), [], "red", 0, (1, (), (), (0, 0)), list(RED)):
            for steps in ((), [], None, [None], (("recolor", "r"),)):
                with self.assertRaises(BadDiagram):
                    walk(value, steps)


class OneStep(Case):
    def test_walk_of_one_step_is_apply_step(self):
        source = random.Random(408)
        for diagram in draw_many(409, 40, ports=3, nodes=4, edges=6):
            for step in steps_at(diagram, source) + [("rename", name, "q") for name in NAMES]:
                if slow_step(diagram, step) is None:
                    self.bad(diagram, (step,), 0)
                else:
                    self.assertEqual(walk(diagram, (step,)), apply_step(diagram, step))


if __name__ == "__main__":
    unittest.main()
