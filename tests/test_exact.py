"""Numbers and scalars: points [0] and [1], and the interface of exact.py."""

import copy
import inspect
import random
import unittest
from fractions import Fraction

from spiderwires.errors import BadNumber, BadScalar
from spiderwires.exact import add, conjugated, is_number, is_scalar, multiply, scalar_value

ZERO = (0, 0, 0, 0, 0)
ONE = (1, 0, 0, 0, 0)
ROOT = (0, 1, 0, -1, 0)
HUGE = 10 ** 400 + 7

# w ** j and sqrt(2) * w ** j for j from 0 to 7, worked out by hand.
TURNS = (
    (1, 0, 0, 0), (0, 1, 0, 0), (0, 0, 1, 0), (0, 0, 0, 1),
    (-1, 0, 0, 0), (0, -1, 0, 0), (0, 0, -1, 0), (0, 0, 0, -1),
)
ROOT_TURNS = (
    (0, 1, 0, -1), (1, 0, 1, 0), (0, 1, 0, 1), (-1, 0, 1, 0),
    (0, -1, 0, 1), (-1, 0, -1, 0), (0, -1, 0, -1), (1, 0, -1, 0),
)

# Values of no use to any function here, whatever their class.
NOT_TUPLES = (
    True, False, 0, 1, -1, HUGE, "", "number", b"", b"12345", [], {}, {1: 2}, set(), frozenset((1, 2)),
    object(), int, 1.5, [0, 0, 0, 0, 0], [0, 0], {0: 0, 1: 0}, range(5), "00000", "00",
)

NOT_NUMBERS = NOT_TUPLES + (
    None, (), (0,), (0, 0), (0, 0, 0, 0), (1, 0, 0, 0, 0, 0), (ZERO,), (ZERO,) * 5,
    (1, 0, 0, 0, -1), (1, 0, 0, 0, 4001), (1, 0, 0, 0, HUGE), (1, 0, 0, 0, -HUGE),
    (2, 0, 0, 0, 1), (2, 4, -6, 8, 3), (0, 0, 0, 0, 1), (0, 0, 0, 0, 4000), (2 * HUGE, 0, 0, 0, 9),
    (True, 0, 0, 0, 0), (0, False, 0, 0, 0), (0, 0, True, 0, 0), (0, 0, 0, False, 0), (1, 0, 0, 0, True),
    ("1", 0, 0, 0, 0), (1, None, 0, 0, 0), (1, 0, [], 0, 0), (1, 0, 0, 0.0, 0), (1, 0, 0, 0, "0"),
    (1, 0, 0, 0, None), (1, 0, 0, 0, [0]),
)

NOT_SCALARS = NOT_TUPLES + (
    (), (0,), (0, 0, 0), (None,), ((0, 0),), ((0, 0), (0, 0)), ZERO,
    (-2001, 0), (2001, 0), (HUGE, 0), (-HUGE, 0), (0, -1), (0, 8), (0, HUGE), (2001, 8),
    (True, 0), (False, 0), (0, True), (0, False), ("0", 0), (0, "0"), (None, 0), (0, None),
    ([], 0), (0, [0]), (0.0, 0), (0, 1.0),
)

NUMBERS = (
    ZERO, ONE, (-1, 0, 0, 0, 0), ROOT, (0, 1, 0, -1, 1), (0, 0, 1, 0, 0), (0, 0, 0, -1, 0),
    (2, 4, 6, 8, 0), (3, -5, 7, -9, 0), (1, 2, 4, 6, 5), (0, 0, -1, 0, 1), (-3, 2, 0, 1, 64),
    (HUGE, -HUGE, HUGE + 1, 1 - HUGE, 0), (HUGE, 0, 2 * HUGE, -4, 1999), (1, 1, 1, 1, 2000),
    (0, -HUGE, 0, 0, 3), (8 * HUGE, 16, 0, -64, 0), (-1, -1, -1, -1, 1), (1, 1, 1, 1, 1),
)


def parts(x):
    """The four coefficients of a number over the basis 1, w, w ** 2, w ** 3."""
    return [Fraction(item, 2 ** x[4]) for item in x[:4]]


def product_parts(x, y):
    """The coefficients of a product, row by row of the matrix of x."""
    a, b, c, d = parts(x)
    e, f, g, h = parts(y)
    return [
        a * e - b * h - c * g - d * f,
        a * f + b * e - c * h - d * g,
        a * g + b * f + c * e - d * h,
        a * h + b * g + c * f + d * e,
    ]


def some_numbers(count, digits, halvings):
    """Numbers from a fixed seed, brought to lowest form one halving at a time."""
    source = random.Random(10 * digits + halvings)
    found = []
    while len(found) < count:
        top = 10 ** digits
        items = [source.choice((0, source.randint(-top, top))) for _ in range(4)]
        k = source.randint(0, halvings) if any(items) else 0
        while k > 0 and not any(item % 2 for item in items):
            items, k = [item // 2 for item in items], k - 1
        found.append((*items, k))
    return found


def reason_of(call, *arguments):
    """The reason of the BadNumber that a call raises."""
    try:
        call(*arguments)
    except BadNumber as error:
        return error.reason
    return None


class Case(unittest.TestCase):
    def check_number(self, found, wanted):
        """A result is a number in lowest form with the wanted coefficients."""
        self.assertIs(is_number(found), True, found)
        self.assertEqual([type(item) for item in found], [int] * 5)
        self.assertEqual(parts(found), wanted)


class Blocks(unittest.TestCase):
    def test_is_number(self):
        self.assertIs(is_number((2, 0, 0, 0, 1)), False)

    def test_is_scalar(self):
        self.assertIs(is_scalar((-1, 8)), False)

    def test_add(self):
        self.assertEqual(add((1, 0, 0, 0, 0), (1, 0, 0, 0, 1)), (3, 0, 0, 0, 1))

    def test_multiply(self):
        root = (0, 1, 0, -1, 0)
        self.assertEqual(multiply(root, root), (2, 0, 0, 0, 0))

    def test_conjugated(self):
        self.assertEqual(conjugated((0, 1, 0, 0, 0)), (0, 0, 0, -1, 0))

    def test_scalar_value(self):
        self.assertEqual(scalar_value((-1, 0)), (0, 1, 0, -1, 1))

    def test_scalar_value_of_none(self):
        self.assertEqual(scalar_value(None), (0, 0, 0, 0, 0))


class Interface(unittest.TestCase):
    def test_names_of_parameters(self):
        wanted = {
            is_number: ["value"], is_scalar: ["value"], add: ["x", "y"], multiply: ["x", "y"],
            conjugated: ["x"], scalar_value: ["scalar"],
        }
        for function, names in wanted.items():
            self.assertEqual(list(inspect.signature(function).parameters), names)
            self.assertEqual(function.__module__, "spiderwires.exact")

    def test_arguments_by_name(self):
        self.assertIs(is_number(value=ONE), True)
        self.assertIs(is_scalar(value=(1, 2)), True)
        self.assertEqual(add(y=(0, 3, 0, 0, 0), x=ONE), (1, 3, 0, 0, 0))
        self.assertEqual(add(ONE, y=ONE), (2, 0, 0, 0, 0))
        self.assertEqual(multiply(y=(0, 3, 0, 0, 0), x=ROOT), (3, 0, 3, 0, 0))
        self.assertEqual(conjugated(x=(1, 2, 3, 4, 0)), (1, -4, -3, -2, 0))
        self.assertEqual(scalar_value(scalar=(2, 1)), (0, 2, 0, 0, 0))

    def test_wrong_arguments_by_name(self):
        with self.assertRaises(BadNumber):
            add(y=None, x=ONE)
        with self.assertRaises(BadNumber):
            multiply(y=ONE, x=None)
        with self.assertRaises(BadNumber):
            conjugated(x=None)
        with self.assertRaises(BadScalar):
            scalar_value(scalar=False)

    def test_equal_calls_give_equal_results(self):
        for x in NUMBERS:
            again = tuple([*x])
            self.assertEqual(conjugated(x), conjugated(again))
            for y in NUMBERS:
                self.assertEqual(add(x, y), add(again, y))
                self.assertEqual(multiply(x, y), multiply(again, y))


class IsNumber(unittest.TestCase):
    def test_numbers(self):
        for value in NUMBERS:
            self.assertIs(is_number(value), True, value)

    def test_other_values(self):
        for value in NOT_NUMBERS:
            self.assertIs(is_number(value), False, value)

    def test_both_ends_of_k(self):
        for k, wanted in ((-1, False), (0, True), (1, True), (3999, True), (4000, True), (4001, False)):
            self.assertIs(is_number((1, 0, 0, 0, k)), wanted, k)

    def test_one_odd_coefficient_is_enough_at_each_place(self):
        for place in range(4):
            for odd in (1, -1, 3, -HUGE, HUGE):
                for k in (0, 1, 4000):
                    items = [2, -4, 0, 6, k]
                    self.assertIs(is_number(tuple(items)), k == 0, items)
                    items[place] = odd
                    self.assertIs(is_number(tuple(items)), True, items)

    def test_even_coefficients_need_k_zero(self):
        for items in ((2, 4, 6, 8), (0, 0, 0, -2), (2 * HUGE, 0, 0, 0), (0, 0, 0, 0)):
            self.assertIs(is_number((*items, 0)), True)
            for k in (1, 2, 3999, 4000):
                self.assertIs(is_number((*items, k)), False, (items, k))

    def test_a_wrong_item_at_each_place(self):
        for place in range(5):
            for wrong in (True, False, None, "1", b"1", [], (), {}, 1.0):
                items = [1, 1, 1, 1, 1]
                items[place] = wrong
                self.assertIs(is_number(tuple(items)), False, items)


class IsScalar(unittest.TestCase):
    def test_none_is_a_scalar(self):
        self.assertIs(is_scalar(None), True)

    def test_other_values(self):
        for value in NOT_SCALARS:
            self.assertIs(is_scalar(value), False, value)

    def test_both_ends_of_k(self):
        for k in (-2000, -1999, -1, 0, 1, 1999, 2000):
            self.assertIs(is_scalar((k, 0)), True, k)
        for k in (-2002, -2001, 2001, 2002):
            self.assertIs(is_scalar((k, 0)), False, k)

    def test_both_ends_of_j(self):
        for k in (-2000, 0, 2000):
            for j in range(-9, 18):
                self.assertIs(is_scalar((k, j)), 0 <= j <= 7, (k, j))

    def test_a_wrong_item_at_each_place(self):
        for wrong in (True, False, None, "1", b"1", [], (), {}, 1.0):
            self.assertIs(is_scalar((wrong, 1)), False, wrong)
            self.assertIs(is_scalar((1, wrong)), False, wrong)


class Add(Case):
    def check_sum(self, x, y):
        self.check_number(add(x, y), [p + q for p, q in zip(parts(x), parts(y))])

    def test_sums_by_hand(self):
        self.assertEqual(add((1, 0, 0, 0, 1), (1, 0, 0, 0, 1)), ONE)
        self.assertEqual(add((1, 2, 3, 4, 2), (3, 2, 1, 0, 2)), (1, 1, 1, 1, 0))
        self.assertEqual(add((1, 0, 0, 0, 3), (1, 0, 0, 0, 3)), (1, 0, 0, 0, 2))
        self.assertEqual(add((0, 1, 0, 0, 2), (0, 0, 0, -1, 1)), (0, 1, 0, -2, 2))
        self.assertEqual(add((5, 0, 0, 0, 0), (0, 0, -3, 0, 4)), (80, 0, -3, 0, 4))

    def test_even_coefficients_over_one_stay(self):
        self.assertEqual(add((2, 0, 0, 4, 0), (4, 0, 0, 0, 0)), (6, 0, 0, 4, 0))

    def test_each_two_of_the_samples(self):
        for x in NUMBERS:
            for y in NUMBERS:
                self.check_sum(x, y)

    def test_small_numbers(self):
        numbers = some_numbers(60, 1, 4)
        for x in numbers:
            for y in numbers:
                self.check_sum(x, y)

    def test_large_numbers(self):
        for x, y in zip(some_numbers(40, 900, 4000), some_numbers(40, 300, 4000)):
            self.check_sum(x, y)
            self.check_sum(y, x)

    def test_zero_and_the_negative(self):
        for x in NUMBERS + tuple(some_numbers(30, 50, 4000)):
            negative = (-x[0], -x[1], -x[2], -x[3], x[4])
            self.assertEqual(add(x, ZERO), x)
            self.assertEqual(add(ZERO, x), x)
            self.assertEqual(add(x, negative), ZERO)

    def test_largest_k(self):
        self.assertEqual(add((1, 0, 0, 0, 4000), (1, 0, 0, 0, 4000)), (1, 0, 0, 0, 3999))
        self.assertEqual(add((1, 0, 0, 0, 4000), (0, 1, 0, 0, 4000)), (1, 1, 0, 0, 4000))
        self.assertEqual(add(ONE, (0, 0, 0, 1, 4000)), (2 ** 4000, 0, 0, 1, 4000))
        self.assertEqual(add((2 ** 4000 - 1, 0, 0, 0, 4000), (1, 0, 0, 0, 4000)), ONE)


class Multiply(Case):
    def check_product(self, x, y):
        self.check_number(multiply(x, y), product_parts(x, y))

    def test_products_by_hand(self):
        self.assertEqual(multiply((0, 1, 0, -1, 1), (0, 1, 0, -1, 1)), (1, 0, 0, 0, 1))
        self.assertEqual(multiply((2, 0, 0, 0, 0), (1, 0, 0, 0, 1)), ONE)
        self.assertEqual(multiply((4, 0, 0, 0, 0), (0, 1, 0, 0, 3)), (0, 1, 0, 0, 1))
        self.assertEqual(multiply((1, 2, 0, 0, 0), (3, 0, 0, 5, 0)), (-7, 6, 0, 5, 0))

    def test_even_coefficients_over_one_stay(self):
        self.assertEqual(multiply((2, 0, 0, 0, 0), (0, 6, 0, 0, 0)), (0, 12, 0, 0, 0))

    def test_powers_of_w(self):
        for i in range(8):
            for j in range(8):
                wanted = (*TURNS[(i + j) % 8], 0)
                self.assertEqual(multiply((*TURNS[i], 0), (*TURNS[j], 0)), wanted)

    def test_each_two_of_the_samples(self):
        for x in NUMBERS:
            for y in NUMBERS:
                self.check_product(x, y)

    def test_small_numbers(self):
        numbers = some_numbers(60, 1, 4)
        for x in numbers:
            for y in numbers:
                self.check_product(x, y)

    def test_large_numbers(self):
        for x, y in zip(some_numbers(40, 900, 2000), some_numbers(40, 300, 2000)):
            self.check_product(x, y)
            self.check_product(y, x)

    def test_zero_and_one(self):
        for x in NUMBERS + tuple(some_numbers(30, 50, 4000)):
            self.assertEqual(multiply(x, ZERO), ZERO)
            self.assertEqual(multiply(ZERO, x), ZERO)
            self.assertEqual(multiply(x, ONE), x)
            self.assertEqual(multiply(ONE, x), x)

    def test_largest_k(self):
        self.assertEqual(multiply((1, 0, 0, 0, 2000), (0, 0, 3, 0, 2000)), (0, 0, 3, 0, 4000))
        self.assertEqual(multiply((2 ** 4000, 0, 0, 0, 0), (0, 0, 0, -1, 4000)), (0, 0, 0, -1, 0))
        # The sum of both k is 4001, but the product can be halved.
        self.assertEqual(multiply((0, 1, 0, -1, 2001), (0, 1, 0, -1, 2000)), (1, 0, 0, 0, 4000))


class Conjugated(Case):
    def test_by_hand(self):
        self.assertEqual(conjugated((1, 2, 3, 4, 0)), (1, -4, -3, -2, 0))
        self.assertEqual(conjugated((1, -2, -3, -4, 7)), (1, 4, 3, 2, 7))
        self.assertEqual(conjugated(ROOT), ROOT)
        self.assertEqual(conjugated(ZERO), ZERO)
        self.assertEqual(conjugated((HUGE, 0, HUGE, 1, 4000)), (HUGE, -1, -HUGE, 0, 4000))

    def test_powers_of_w(self):
        for j in range(8):
            self.assertEqual(conjugated((*TURNS[j], 0)), (*TURNS[-j % 8], 0))

    def test_each_sample(self):
        for x in NUMBERS + tuple(some_numbers(60, 40, 4000)):
            a, b, c, d = parts(x)
            self.check_number(conjugated(x), [a, -d, -c, -b])
            self.assertEqual(conjugated(conjugated(x)), x)

    def test_keeps_sums_and_products(self):
        for x in NUMBERS:
            for y in NUMBERS:
                self.assertEqual(conjugated(add(x, y)), add(conjugated(x), conjugated(y)))
                self.assertEqual(conjugated(multiply(x, y)), multiply(conjugated(x), conjugated(y)))


class ScalarValue(Case):
    def check_scalar(self, k, j):
        turns = ROOT_TURNS if k % 2 else TURNS
        power = Fraction(2) ** ((k - k % 2) // 2)
        self.check_number(scalar_value((k, j)), [power * item for item in turns[j]])

    def test_by_hand(self):
        self.assertEqual(scalar_value((0, 0)), ONE)
        self.assertEqual(scalar_value((1, 0)), ROOT)
        self.assertEqual(scalar_value((2, 0)), (2, 0, 0, 0, 0))
        self.assertEqual(scalar_value((-2, 3)), (0, 0, 0, 1, 1))
        self.assertEqual(scalar_value((-3, 1)), (1, 0, 1, 0, 2))
        self.assertEqual(scalar_value((3, 6)), (0, -2, 0, -2, 0))

    def test_each_scalar_at_its_bounds(self):
        for k in (-2000, -1999, 1999, 2000):
            for j in range(8):
                self.check_scalar(k, j)
        self.assertEqual(scalar_value((-2000, 0)), (1, 0, 0, 0, 1000))
        self.assertEqual(scalar_value((2000, 7)), (0, 0, 0, -(2 ** 1000), 0))

    def test_each_small_scalar(self):
        for k in range(-40, 41):
            for j in range(8):
                self.check_scalar(k, j)

    def test_each_k(self):
        for k in range(-2000, 2001):
            self.check_scalar(k, k % 8)

    def test_products_of_scalars(self):
        for k in (-2000, -1001, -1, 0, 1, 2, 999):
            for j in range(8):
                found = multiply(scalar_value((k, j)), scalar_value((1001, 3)))
                self.assertEqual(found, scalar_value((k + 1001, (j + 3) % 8)))


class WrongInputs(unittest.TestCase):
    def test_numbers_at_either_position(self):
        for wrong in NOT_NUMBERS:
            for call in (add, multiply):
                for arguments in ((wrong, ONE), (ONE, wrong), (wrong, wrong), (wrong, ZERO), (ZERO, wrong)):
                    with self.assertRaises(BadNumber, msg=wrong):
                        call(*arguments)
            with self.assertRaises(BadNumber, msg=wrong):
                conjugated(wrong)

    def test_scalars(self):
        for wrong in NOT_SCALARS:
            with self.assertRaises(BadScalar, msg=wrong):
                scalar_value(wrong)

    def test_the_first_of_two_wrong_arguments_is_told(self):
        for call in (add, multiply):
            first = reason_of(call, None, ONE)
            second = reason_of(call, ONE, None)
            self.assertNotEqual(first, second)
            for x in NOT_NUMBERS:
                self.assertEqual(reason_of(call, x, ONE), first)
                self.assertEqual(reason_of(call, ONE, x), second)
                self.assertEqual(reason_of(call, x, None), first)
                self.assertEqual(reason_of(call, None, x), first)

    def test_no_argument_is_modified(self):
        wrongs = ([1, 0, 0, 0, 0], [0, 0], {0: 0, 1: [2]}, (1, 0, 0, 0, [0]), ([0], 0), {1, 2}, (2, [4], 6, 8, 3))
        for wrong in wrongs:
            before = copy.deepcopy(wrong)
            is_number(wrong)
            is_scalar(wrong)
            for call, arguments in ((add, (wrong, ONE)), (add, (ONE, wrong)), (multiply, (wrong, ONE)),
                                    (multiply, (ONE, wrong)), (conjugated, (wrong,)), (scalar_value, (wrong,))):
                with self.assertRaises((BadNumber, BadScalar)):
                    call(*arguments)
            self.assertEqual(wrong, before)


if __name__ == "__main__":
    unittest.main()
