"""Texts: point [8], and the interface of texts.py."""

import random
import unittest

from checking import Case, ODD_VALUES, sized
from drawn import EMPTY, PAIR, RED, WORDS, draw_many, made, steps_at, well_formed, zero_form
from spelling import slow_text

from spiderwires.errors import BadDiagram, BadStep
from spiderwires.forms import form_steps
from spiderwires.texts import diagram_text, steps_text

GOOD = (
    ("recolor", "a"), ("fuse", "a", "a"), ("drop", "drop"), ("insert", "0", "7", "plain", "insert", 0), ("unloop", "plain", "plain"),
    ("insert", "7", "a", "crossed", "crossed", 1), ("insert", "zzzzzzzz", "zzzzzzzz", "plain", "a", 1), ("cancel", "zero", "ports"),
    ("evaluate", "node"), ("complement", "edge"), ("pivot", "scalar", "green"), ("rename", "rename", "red"), ("clear",),
)
NOT_STEPS = (
    None, True, 0, "", "clear", "recolor a", b"", {}, {"clear": 1}, set(), object(), (), [], ["clear"], ["recolor", "a"], ("recolor",),
    ("recolor", "a", "b"), ("Recolor", "a"), ("recolor", "A"), ("recolor", "0"), ("recolor", ""), ("recolor", "aaaaaaaaa"),
    ("recolor", None), ("fuse", "a"), ("fuse", "a", "7"), ("drop", "a", "b"), ("drop", "a b"), ("insert", "a", "b", "plain", "n"),
    ("insert", "b", "a", "plain", "n", 0), ("insert", "8", "a", "plain", "n", 0), ("insert", "a", "b", "odd", "n", 0),
    ("insert", "a", "b", "plain", "0", 0), ("insert", "a", "b", "plain", "n", 2), ("insert", "a", "b", "plain", "n", True),
    ("insert", "a", "b", "plain", "n", "0"), ("insert", "a", "7", "plain", "n", 0), ("insert", "a", "b", "plain", "n", -1),
    ("unloop", "a", "b"), ("unloop", "plain", "a"), ("cancel", "a", "b", "c"), ("evaluate",), ("complement", 0), ("pivot", "a", ["b"]),
    ("rename", "a", "b1"), ("clear", "a"), ("clear", ()), ("",), (None,), (0,), ("clear ",), ("close", "a"), (("clear",),),
)


class Blocks(Case):
    def test_diagram_text(self):
        self.assertEqual(diagram_text(RED), "ports 1\nscalar 0 0\nnode r red 2\nedge 0 r plain")

    def test_steps_text(self):
        self.assertEqual(steps_text((("recolor", "r"),)), "recolor r")


class Diagrams(Case):
    def test_by_hand(self):
        for diagram, lines in (
            (EMPTY, ("ports 0", "scalar 0 0")), ((0, (), (), None), ("ports 0", "scalar zero")),
            (PAIR[:3] + ((-2000, 7),), ("ports 2", "scalar -2000 7", "node a green 1", "edge 0 a plain", "edge 1 a plain")),
            (made(2, [], ["0 1 crossed"], (2000, 0)), ("ports 2", "scalar 2000 0", "edge 0 1 crossed")),
            (zero_form(2), ("ports 2", "scalar zero", "node pa green 0", "node pb green 0", "edge 0 pa plain", "edge 1 pb plain")),
            (made(0, ["edge red 3", "node green 0", "zero red 1"], ["edge node plain", "edge node plain", "zero zero crossed"], (-1, 1)),
             ("ports 0", "scalar -1 1", "node edge red 3", "node node green 0", "node zero red 1", "edge edge node plain",
              "edge edge node plain", "edge zero zero crossed")),
            (made(0, ["crossed green 0", "plain red 2", "ports red 0", "scalar green 1"], ["crossed plain crossed", "ports scalar plain"]),
             ("ports 0", "scalar 0 0", "node crossed green 0", "node plain red 2", "node ports red 0", "node scalar green 1",
              "edge crossed plain crossed", "edge ports scalar plain")),
        ):
            self.assertEqual(diagram_text(diagram), "\n".join(lines))

    def test_drawn_ones(self):
        for diagram in draw_many(1501, 300, ports=8, nodes=9, edges=14, power=2000):
            found = diagram_text(diagram)
            self.assertIs(type(found), str)
            self.assertEqual(found, slow_text(diagram))

    def test_large_ones(self):
        for scalar in ((2000, 7), (-2000, 0), None):
            diagram = sized(80, 1500, scalar, 8)
            self.assertEqual(diagram_text(diagram), slow_text(diagram))
            self.assertEqual(diagram_text(diagram).count("\n"), 1581)

    def test_wrong_ones(self):
        for value in ODD_VALUES + ((1, (), (), (0, 0)), list(RED), RED[:3] + ((2001, 0),), RED[:3], RED + (0,)):
            self.fails(BadDiagram, None, diagram_text, value)


class Steps(Case):
    def test_no_steps(self):
        self.assertEqual(steps_text(()), "")
        self.assertEqual(steps_text([]), "")

    def test_each_kind(self):
        self.assertEqual({step[0] for step in GOOD}, set(WORDS))
        for step in GOOD:
            self.assertTrue(well_formed(step))
            self.assertEqual(steps_text((step,)), " ".join(map(str, step)))
            self.assertEqual(steps_text([step, step]), "\n".join([" ".join(map(str, step))] * 2))
        self.assertEqual(steps_text(GOOD), "\n".join(" ".join(map(str, step)) for step in GOOD))
        self.assertEqual(steps_text(list(GOOD)), steps_text(GOOD))
        self.assertEqual(steps_text((GOOD[3], GOOD[12])), "insert 0 7 plain insert 0\nclear")

    def test_drawn_ones(self):
        source = random.Random(1502)
        for diagram in draw_many(1503, 60, ports=8, nodes=6, edges=9):
            for steps in (steps_at(diagram, source), form_steps(diagram)):
                self.assertEqual(steps_text(steps), "\n".join(" ".join(map(str, step)) for step in steps))

    def test_steps_need_not_be_valid_for_a_diagram(self):
        self.assertEqual(steps_text([("clear",), ("fuse", "a", "a"), ("rename", "a", "a")]), "clear\nfuse a a\nrename a a")

    def test_the_first_item_that_is_not_well_formed(self):
        for wrong in NOT_STEPS:
            self.assertFalse(well_formed(wrong))
            for index in (0, 1, 5, len(GOOD)):
                steps = GOOD[:index] + (wrong,) + GOOD[index:] + (None,)
                self.fails(BadStep, index, steps_text, steps)
                self.fails(BadStep, index, steps_text, list(steps))

    def test_other_kinds(self):
        for value in ODD_VALUES:
            if value not in ((), []):
                self.fails(BadStep, 0, steps_text, value)
        for value in ("clear", {("clear",): 1}, {("clear",)}, iter([("clear",)]), range(0), ("recolor", "a"), ("clear",)):
            self.fails(BadStep, 0, steps_text, value)

    def test_a_list_stays_as_it_is(self):
        steps = [("clear",), ("insert", "0", "a", "plain", "b", 1)]
        steps_text(steps)
        self.assertEqual(steps, [("clear",), ("insert", "0", "a", "plain", "b", 1)])


if __name__ == "__main__":
    unittest.main()
