"""Point [0] for all functions but those of exact.py: names of arguments, arguments and results that stay as they are."""

import copy
import inspect
import unittest

from drawn import EMPTY, PAIR, RED, draw_many, zero_form

from spiderwires import building, compare, diagrams, forms, programs, steps, symmetries, tables
from spiderwires.errors import BadBits, BadDiagram, BadStep, NoEdge

GREEN = (1, (("r", "green", 2),), (("0", "r", "crossed"),), (0, 0))
BACK = (2, (("a", "green", 3),), (("0", "a", "plain"), ("1", "a", "plain")), (0, 0))
THREE = (3, (("a", "green", 1), ("b", "red", 3)), (("0", "a", "plain"), ("1", "b", "plain"), ("2", "a", "crossed")), (0, 0))

# Each function with the names of its parameters and values for them.
CALLS = (
    (diagrams.is_diagram, {"value": RED}),
    (diagrams.is_diagram, {"value": [1, [], {}]}),
    (diagrams.need_diagram, {"diagram": RED}),
    (diagrams.edge_parity, {"diagram": RED, "edge": ("0", "r", "plain")}),
    (steps.apply_step, {"diagram": RED, "step": ("recolor", "r")}),
    (steps.walk, {"diagram": RED, "steps": [("recolor", "r"), ("rename", "r", "s")]}),
    (steps.walk, {"diagram": RED, "steps": (("recolor", "r"),)}),
    (forms.form, {"diagram": PAIR}),
    (forms.form_steps, {"diagram": PAIR}),
    (forms.leaders, {"diagram": PAIR}),
    (tables.entry, {"diagram": PAIR, "bits": (1, 1)}),
    (tables.table, {"diagram": PAIR}),
    (compare.compare, {"one": PAIR, "other": BACK}),
    (compare.compare, {"one": RED, "other": forms.form(RED)}),
    (compare.check_equal, {"one": RED, "other": GREEN, "derivations": ([("recolor", "r")], ())}),
    (compare.check_different, {"one": PAIR, "other": BACK, "witness": ((1, 1), (0, 0, 1, 0, 0), (0, 0, -1, 0, 0))}),
    (compare.check_different, {"one": PAIR, "other": BACK, "witness": [{}]}),
    (compare.ratio, {"one": RED, "other": RED[:3] + ((1, 2),)}),
    (building.tensor, {"one": RED, "other": PAIR}),
    (building.join, {"diagram": THREE, "first": 2, "second": 0}),
    (building.permute, {"diagram": THREE, "order": (1, 2, 0)}),
    (building.conjugate, {"diagram": PAIR}),
    (building.close_port, {"diagram": THREE, "port": 0, "bit": 1}),
    (building.inner_product, {"one": PAIR, "other": BACK}),
    (programs.program_diagram, {"width": 2, "program": [("add", 0, 1), ("phase", 1, 1)]}),
    (programs.program_form, {"width": 2, "program": [("add", 0, 1), ("phase", 1, 1)]}),
    (programs.same_program, {"width": 2, "program": [("add", 0, 1)], "second_program": [("add", 1, 0), ("swap", 0, 1)]}),
    (symmetries.word_product, {"word": (0, "XZ"), "second_word": (1, "YY")}),
    (symmetries.keeps, {"diagram": RED, "word": (2, "Z")}),
    (symmetries.symmetries, {"diagram": PAIR}),
    (symmetries.all_symmetries, {"diagram": PAIR}),
)
NOT_DIAGRAMS = (None, True, 1, "", [], {}, (), object(), (1, (), (), (0, 0)), list(RED), RED[:3], (True,) + RED[1:])


class Arguments(unittest.TestCase):
    def test_by_position_and_by_name(self):
        for call, values in CALLS:
            self.assertEqual(list(inspect.signature(call).parameters), list(values))
            wanted = call(*values.values())
            self.assertEqual(call(**values), wanted)
            self.assertEqual(call(**dict(reversed(values.items()))), wanted)

    def test_the_names_are_not_exchanged(self):
        self.assertNotEqual(building.tensor(RED, PAIR), building.tensor(PAIR, RED))
        self.assertNotEqual(compare.ratio(RED, RED[:3] + ((1, 2),)), compare.ratio(RED[:3] + ((1, 2),), RED))
        self.assertNotEqual(symmetries.word_product((0, "XZ"), (1, "YI")), symmetries.word_product((1, "YI"), (0, "XZ")))

    def test_they_are_not_modified(self):
        for call, values in CALLS:
            kept = copy.deepcopy(values)
            call(**values)
            self.assertEqual(values, kept)

    def test_not_even_by_calls_that_raise(self):
        wrong = [("recolor", "r"), ["recolor", "r"]]
        with self.assertRaises(BadStep):
            steps.walk(RED, wrong)
        self.assertEqual(wrong, [("recolor", "r"), ["recolor", "r"]])
        edge = ["0", "r", "plain"]
        with self.assertRaises(NoEdge):
            diagrams.edge_parity(RED, edge)
        self.assertEqual(edge, ["0", "r", "plain"])
        step = ["recolor", "r"]
        with self.assertRaises(BadStep):
            steps.apply_step(RED, step)
        self.assertEqual(step, ["recolor", "r"])
        bits = [0, 0]
        with self.assertRaises(BadBits):
            tables.entry(PAIR, bits)
        self.assertEqual(bits, [0, 0])


class Results(unittest.TestCase):
    def test_equal_calls_return_equal_results(self):
        for diagram in (*draw_many(701, 60, ports=5, nodes=8, edges=12), EMPTY, RED, PAIR, zero_form(8)):
            for call in (diagrams.is_diagram, diagrams.need_diagram, forms.form, forms.form_steps, tables.table,
                         building.conjugate, lambda value: compare.compare(value, value)):
                first = call(diagram)
                self.assertEqual(call(copy.deepcopy(diagram)), first)
                self.assertEqual(call(diagram), first)

    def test_results_hold_only_immutable_values(self):
        for call, values in CALLS:
            if call is not tables.table:
                hash(call(**values))
        for pair in tables.table(PAIR):
            hash(pair)


class Order(unittest.TestCase):
    def test_the_diagram_comes_first(self):
        for value in NOT_DIAGRAMS:
            for call, others in (
                (diagrams.need_diagram, ((),)), (diagrams.edge_parity, ((("0", "r", "plain"),), (None,), ([],))),
                (steps.apply_step, ((("recolor", "r"),), (None,), ([],))), (steps.walk, (((),), ([],), (None,), ([None],))),
                (forms.form, ((),)), (forms.form_steps, ((),)), (forms.leaders, ((),)), (tables.table, ((),)),
                (tables.entry, (((),), ((0,),), (None,), ([],))),
            ):
                for more in others:
                    with self.assertRaises(BadDiagram):
                        call(value, *more)


if __name__ == "__main__":
    unittest.main()
