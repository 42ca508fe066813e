"""Point [0] over every function of the interface: names, order of checks, arguments and results that stay as they are."""

import copy
import inspect
import itertools
import unittest

from checking import Case
from drawn import EMPTY, PAIR, RED, draw_many, zero_form

from spiderwires import building, compare, cuts, diagrams, errors, exact, forms, outcomes, programs, reading, steps, symmetries
from spiderwires import tables, texts

GREEN = (1, (("r", "green", 2),), (("0", "r", "crossed"),), (0, 0))
BACK = (2, (("a", "green", 3),), (("0", "a", "plain"), ("1", "a", "plain")), (0, 0))
THREE = (3, (("a", "green", 1), ("b", "red", 3)), (("0", "a", "plain"), ("1", "b", "plain"), ("2", "a", "crossed")), (0, 0))
TWO_STEPS = [("recolor", "r"), ("rename", "r", "s")]
ADDED = [("add", 0, 1), ("phase", 1, 1)]

# Each function with the names of its parameters and values for them.
CALLS = (
    (exact.is_number, {"value": (1, 0, 0, 0, 1)}),
    (exact.is_number, {"value": [1, {}]}),
    (exact.is_scalar, {"value": (0, 0)}),
    (exact.is_scalar, {"value": [[0], 0]}),
    (exact.add, {"x": (1, 2, 3, 4, 1), "y": (0, 1, 0, 0, 3)}),
    (exact.multiply, {"x": (1, 2, 3, 4, 1), "y": (0, 1, 0, 0, 3)}),
    (exact.conjugated, {"x": (1, 2, 3, 4, 1)}),
    (exact.scalar_value, {"scalar": (-1, 3)}),
    (diagrams.is_diagram, {"value": RED}),
    (diagrams.is_diagram, {"value": [1, [], {}]}),
    (diagrams.need_diagram, {"diagram": RED}),
    (diagrams.edge_parity, {"diagram": RED, "edge": ("0", "r", "plain")}),
    (steps.apply_step, {"diagram": RED, "step": ("recolor", "r")}),
    (steps.walk, {"diagram": RED, "steps": TWO_STEPS}),
    (steps.walk, {"diagram": RED, "steps": (("recolor", "r"),)}),
    (forms.form, {"diagram": PAIR}),
    (forms.form_steps, {"diagram": PAIR}),
    (forms.leaders, {"diagram": PAIR}),
    (tables.entry, {"diagram": PAIR, "bits": (1, 1)}),
    (tables.table, {"diagram": PAIR}),
    (compare.compare, {"one": PAIR, "other": BACK}),
    (compare.compare, {"one": RED, "other": forms.form(RED)}),
    (compare.check_equal, {"one": RED, "other": GREEN, "derivations": ([("recolor", "r")], ())}),
    (compare.check_different, {"one": PAIR, "other": BACK, "witness": ((1, 1), (0, 0, 1, 0, 0), (0, 0, -1, 0, 0))}),
    (compare.check_different, {"one": PAIR, "other": BACK, "witness": [{}]}),
    (compare.ratio, {"one": RED, "other": RED[:3] + ((1, 2),)}),
    (building.tensor, {"one": RED, "other": PAIR}),
    (building.join, {"diagram": THREE, "first": 2, "second": 0}),
    (building.permute, {"diagram": THREE, "order": (1, 2, 0)}),
    (building.conjugate, {"diagram": PAIR}),
    (building.close_port, {"diagram": THREE, "port": 0, "bit": 1}),
    (building.inner_product, {"one": PAIR, "other": PAIR[:3] + ((0, 1),)}),
    (programs.program_diagram, {"width": 2, "program": ADDED}),
    (programs.program_form, {"width": 2, "program": ADDED}),
    (programs.same_program, {"width": 2, "program": ADDED, "second_program": [("add", 1, 0), ("swap", 0, 1)]}),
    (symmetries.word_product, {"word": (0, "XZ"), "second_word": (1, "YI")}),
    (symmetries.keeps, {"diagram": RED, "word": (2, "Z")}),
    (symmetries.symmetries, {"diagram": PAIR}),
    (symmetries.all_symmetries, {"diagram": PAIR}),
    (cuts.cut_rank, {"diagram": PAIR, "ports": (0,)}),
    (cuts.split, {"diagram": THREE, "ports": (1,)}),
    (outcomes.chance, {"diagram": RED, "port": 0, "bit": 1}),
    (outcomes.outcomes, {"diagram": PAIR, "ports": (0, 1)}),
    (texts.diagram_text, {"diagram": RED}),
    (texts.steps_text, {"steps": TWO_STEPS}),
    (reading.read_diagram, {"text": "ports 1\nscalar 0 0\nnode r red 2\nedge 0 r plain"}),
    (reading.read_steps, {"text": "drop a\nclear"}),
)

# The fixed error of each parameter.
FIXED = {
    **dict.fromkeys(("x", "y"), errors.BadNumber), "scalar": errors.BadScalar,
    **dict.fromkeys(("diagram", "one", "other"), errors.BadDiagram),
    **dict.fromkeys(("port", "first", "second"), errors.BadPort), "ports": errors.BadPorts, "order": errors.BadOrder,
    **dict.fromkeys(("bit", "bits"), errors.BadBits), **dict.fromkeys(("step", "steps"), errors.BadStep),
    **dict.fromkeys(("word", "second_word"), errors.BadWord), "width": errors.BadWidth,
    **dict.fromkeys(("program", "second_program"), errors.BadProgram), "text": errors.BadLine,
}


class Stubborn:
    """A value that may not be compared, counted, tested or iterated over."""

    def refuse(self, *rest):
        raise RuntimeError("not to be asked")

    __eq__ = __ne__ = __lt__ = __le__ = __gt__ = __ge__ = __len__ = __iter__ = __bool__ = __getitem__ = __contains__ = refuse
    __hash__ = __index__ = __int__ = __str__ = __repr__ = __add__ = __and__ = refuse


STUBBORN = Stubborn()
# None of these is valid for a parameter with a fixed error.
INVALID = (True, False, 1.5, -1, 10 ** 40, b"", {}, {0: 1}, set(), frozenset(), object(), len, range(3), [None], (None,), STUBBORN)
INSIDE = ([STUBBORN], (STUBBORN,), (STUBBORN, STUBBORN), (0, STUBBORN), (STUBBORN, 0), (STUBBORN,) * 4, (STUBBORN,) * 5,
          (1, (), (), STUBBORN), (1, (STUBBORN,), (), (0, 0)), (1, (), (STUBBORN,), (0, 0)), (0, (), (), (0, STUBBORN)),
          (1, (("r", "red", STUBBORN),), (), (0, 0)), (1, (), ((STUBBORN, "0", "plain"),), (0, 0)), ("recolor", STUBBORN))


def fixed_parameters(values):
    return [name for name in values if name in FIXED]


class Arguments(unittest.TestCase):
    def test_every_function_of_the_interface_is_here(self):
        found = {}
        for call, _ in CALLS:
            found.setdefault(call.__module__, set()).add(call.__name__)
        self.assertEqual(sum(len(names) for names in found.values()), 41)
        self.assertEqual(len(found), 13)

    def test_by_position_and_by_name(self):
        for call, values in CALLS:
            self.assertEqual(list(inspect.signature(call).parameters), list(values))
            wanted = call(*values.values())
            for named in itertools.permutations(values.items()):
                self.assertEqual(call(**dict(named)), wanted)
            first, *rest = values.items()
            self.assertEqual(call(first[1], **dict(rest)), wanted)

    def test_the_names_are_not_exchanged(self):
        for call, values in CALLS:
            if call in (building.tensor, building.inner_product, compare.ratio, symmetries.word_product):
                *front, one, other = values.values()
                self.assertNotEqual(call(*front, one, other), call(*front, other, one), call)

    def test_they_are_not_modified(self):
        for call, values in CALLS:
            kept = copy.deepcopy(values)
            call(**values)
            self.assertEqual(values, kept)

    def test_not_even_by_calls_that_raise(self):
        for call, values in (
            (steps.walk, {"diagram": RED, "steps": [("recolor", "r"), ["recolor", "r"]]}),
            (diagrams.edge_parity, {"diagram": RED, "edge": ["0", "r", "plain"]}),
            (steps.apply_step, {"diagram": RED, "step": ["recolor", "r"]}),
            (tables.entry, {"diagram": PAIR, "bits": [0, 0]}),
            (building.permute, {"diagram": PAIR, "order": [1, 0]}),
            (programs.program_form, {"width": 2, "program": [("cross", 0), ["cross", 1]]}),
            (symmetries.keeps, {"diagram": RED, "word": [0, ["Z"]]}),
            (cuts.cut_rank, {"diagram": PAIR, "ports": [1, 0]}),
            (texts.steps_text, {"steps": [("clear",), ["clear"]]}),
            (reading.read_steps, {"text": ["clear"]}),
        ):
            kept = copy.deepcopy(values)
            with self.assertRaises((errors.InvalidInput, errors.Conflict)):
                call(**values)
            self.assertEqual(values, kept)


class Results(unittest.TestCase):
    def test_equal_calls_return_equal_results(self):
        for call, values in CALLS:
            first = call(**values)
            self.assertEqual(call(**copy.deepcopy(values)), first)
            self.assertEqual(call(**values), first)
        for diagram in (*draw_many(701, 60, ports=5, nodes=8, edges=12), EMPTY, RED, PAIR, zero_form(8)):
            for call in (diagrams.is_diagram, diagrams.need_diagram, forms.form, forms.form_steps, tables.table, building.conjugate,
                         texts.diagram_text, lambda value: compare.compare(value, value)):
                first = call(diagram)
                self.assertEqual(call(copy.deepcopy(diagram)), first)
                self.assertEqual(call(diagram), first)

    def test_only_two_functions_return_lists(self):
        for call, values in CALLS:
            result = call(**values)
            if call in (tables.table, outcomes.outcomes):
                self.assertIs(type(result), list)
                result = tuple(result)
            # What can be hashed holds no list, so no change of it can affect a later result.
            hash(result)

    def test_a_changed_list_does_not_affect_a_later_result(self):
        for call, values in CALLS:
            result = call(**values)
            if type(result) is list:
                kept = list(result)
                result.clear()
                self.assertEqual(call(**values), kept)


class Order(Case):
    def bad(self, call, values, changed):
        """The call with some values changed raises the fixed error of the first of their parameters."""
        named = {**values, **changed}
        first = next(name for name in values if name in changed)
        with self.assertRaises((errors.InvalidInput, errors.Conflict, errors.OutOfRange)) as caught:
            call(**named)
        self.assertIs(type(caught.exception), FIXED[first], (call, list(changed)))
        with self.assertRaises(FIXED[first]) as again:
            call(*named.values())
        self.assertEqual(vars(again.exception), vars(caught.exception))
        for attribute in ("index", "line"):
            if hasattr(caught.exception, attribute):
                self.assertEqual(getattr(caught.exception, attribute), 0)

    def test_every_kind_of_value(self):
        for call, values in CALLS:
            for name in fixed_parameters(values):
                for value in INVALID + INSIDE:
                    self.bad(call, values, {name: value})

    def test_none_and_strings(self):
        for call, values in CALLS:
            for name in fixed_parameters(values):
                if name != "scalar":
                    self.bad(call, values, {name: None})
                if name != "text":
                    for value in ("", "0", "clear", "r"):
                        self.bad(call, values, {name: value})

    def test_the_first_of_several_invalid_arguments(self):
        for call, values in CALLS:
            names = fixed_parameters(values)
            for many in range(2, len(names) + 1):
                for some in itertools.combinations(names, many):
                    for value in (True, 1.5, {}, STUBBORN, (None,)):
                        for other in (False, object(), [None]):
                            self.bad(call, values, {some[0]: value, **dict.fromkeys(some[1:], other)})

    def test_the_others_accept_any_value(self):
        for value in INVALID + INSIDE + (None, "", "clear"):
            self.assertIs(exact.is_number(value), False)
            self.assertIs(exact.is_scalar(value), value is None)
            self.assertIs(diagrams.is_diagram(value), False)
            self.assertIs(compare.check_equal(RED, RED, value), False)
            self.assertIs(compare.check_different(PAIR, BACK, value), False)
            with self.assertRaises(errors.NoEdge) as caught:
                diagrams.edge_parity(RED, value)
            self.assertIs(caught.exception.edge, value)

    def test_arguments_come_before_the_size(self):
        large = (2, (), (("0", "1", "plain"),), (2000, 0))
        full = (2, tuple((one + other, "green", 0) for one in "abcdefgh" for other in "abcdefghij"), large[2], (-2000, 0))
        for call, values in CALLS:
            names = fixed_parameters(values)
            for diagram in (large, full):
                for front, more in zip(names, names[1:]):
                    if front in ("diagram", "one"):
                        for value in (True, None, {}, "?"):
                            self.bad(call, {**values, front: diagram}, {more: value})


if __name__ == "__main__":
    unittest.main()
