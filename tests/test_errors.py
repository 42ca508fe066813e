"""The error classes of point [9]."""

import inspect
import unittest

from spiderwires import errors

FAMILIES = {
    "InvalidInput": ValueError,
    "Conflict": LookupError,
    "OutOfRange": ArithmeticError,
}

# The name of each class, its family and its attribute.
CLASSES = {
    "BadNumber": ("InvalidInput", "reason"),
    "BadScalar": ("InvalidInput", "reason"),
    "BadDiagram": ("InvalidInput", "reason"),
    "BadPort": ("InvalidInput", "reason"),
    "BadPorts": ("InvalidInput", "reason"),
    "BadOrder": ("InvalidInput", "reason"),
    "BadBits": ("InvalidInput", "reason"),
    "BadStep": ("InvalidInput", "index"),
    "BadWord": ("InvalidInput", "reason"),
    "BadWidth": ("InvalidInput", "reason"),
    "BadProgram": ("InvalidInput", "index"),
    "BadLine": ("InvalidInput", "line"),
    "NoEdge": ("Conflict", "edge"),
    "PortMismatch": ("Conflict", "counts"),
    "TooLarge": ("OutOfRange", "limit"),
    "ZeroTable": ("OutOfRange", "reason"),
}

CONTENTS = ("some words", "", 0, 24, None, (2, 3), ("0", "r", "crossed"), [1, [2]], {"a": 1}, object())


def both_ways(name, content):
    """Return the error created by position and the error created by name."""
    made = getattr(errors, name)
    return made(content), made(**{CLASSES[name][1]: content})


class Families(unittest.TestCase):
    def test_each_family_has_its_python_class_as_its_only_base(self):
        for name, python_class in FAMILIES.items():
            self.assertEqual(getattr(errors, name).__bases__, (python_class,), name)

    def test_there_are_sixteen_classes_and_three_families_and_no_more(self):
        found = [name for name, value in vars(errors).items() if inspect.isclass(value)]
        self.assertEqual(sorted(found), sorted([*CLASSES, *FAMILIES]))
        self.assertEqual(len(CLASSES), 16)

    def test_each_class_has_its_family_as_its_only_base(self):
        for name, (family, _) in CLASSES.items():
            self.assertEqual(getattr(errors, name).__bases__, (getattr(errors, family),), name)

    def test_each_class_is_written_in_the_file(self):
        for name in [*CLASSES, *FAMILIES]:
            found = getattr(errors, name)
            self.assertEqual((found.__name__, found.__module__), (name, "spiderwires.errors"))


class Arguments(unittest.TestCase):
    def test_the_argument_is_kept_by_position_and_by_name(self):
        for name, (_, attribute) in CLASSES.items():
            for content in CONTENTS:
                for error in both_ways(name, content):
                    self.assertIs(getattr(error, attribute), content, name)

    def test_there_is_no_other_attribute(self):
        for name, (_, attribute) in CLASSES.items():
            for error in both_ways(name, "some words"):
                self.assertEqual(vars(error), {attribute: "some words"}, name)

    def test_two_errors_do_not_share_their_attribute(self):
        for name, (_, attribute) in CLASSES.items():
            one, other = getattr(errors, name)(1), getattr(errors, name)(2)
            self.assertEqual((getattr(one, attribute), getattr(other, attribute)), (1, 2), name)

    def test_there_is_exactly_one_argument(self):
        for name, (_, attribute) in CLASSES.items():
            made = getattr(errors, name)
            for positional, named in (((), {}), ((1, 2), {}), ((1,), {attribute: 1}), ((), {"wrong": 1})):
                with self.assertRaises(TypeError, msg=name):
                    made(*positional, **named)


class Catching(unittest.TestCase):
    def caught(self, error, expected):
        """Tell whether a handler for the expected class catches the error."""
        try:
            raise error
        except expected as found:
            self.assertIs(found, error)
            return True
        except Exception:
            return False

    def test_by_its_own_class_and_by_no_other_of_the_sixteen(self):
        for name in CLASSES:
            for error in both_ways(name, 3):
                for other in CLASSES:
                    self.assertIs(self.caught(error, getattr(errors, other)), name == other, (name, other))

    def test_by_its_family_and_by_no_other_family(self):
        for name, (family, _) in CLASSES.items():
            for error in both_ways(name, 3):
                for other in FAMILIES:
                    self.assertIs(self.caught(error, getattr(errors, other)), family == other, (name, other))

    def test_by_the_python_class_of_its_family_and_by_no_other(self):
        others = (ValueError, LookupError, ArithmeticError, TypeError, KeyError, IndexError, RuntimeError)
        for name, (family, _) in CLASSES.items():
            for error in both_ways(name, 3):
                for other in others:
                    self.assertIs(self.caught(error, other), FAMILIES[family] is other, (name, other))


if __name__ == "__main__":
    unittest.main()
