"""Words and symmetries: point [7], and the interface of symmetries.py."""

import itertools
import random
import unittest

from checking import Case, ODD_VALUES, sized
from drawn import EMPTY, PAIR, RED, draw_form, draw_many, draw_mixed, draw_simple, made, slow_table, times, turned, zero_form

from spiderwires.errors import BadDiagram, BadWord, TooLarge, ZeroTable
from spiderwires.symmetries import all_symmetries, keeps, symmetries, word_product
from spiderwires.tables import table

I, MINUS_I, MINUS = (0, 0, 1, 0, 0), (0, 0, -1, 0, 0), (-1, 0, 0, 0, 0)
NOT_WORDS = (
    *ODD_VALUES, (0,), (0, "X", "X"), ("X", 0), (4, "X"), (-1, "X"), (True, "X"), (False, "X"), (0.0, "X"), ("0", "X"), (None, "X"),
    (0, "x"), (0, "W"), (0, "X "), (0, " X"), (0, "XA"), (0, None), (0, 0), (0, ("X",)), (0, ["X"]), (0, b"X"), [0, "X"], "0X",
    {0: "X"}, (0, "XYZIXYZIX"), (10 ** 40, "X"), (0, "\n"), (0, "0"), ((0, "X"),), (0, True), (0, {}),
)


def all_words(count):
    """All words for this many ports in ascending order."""
    return [(power, "".join(letters)) for power in range(4) for letters in itertools.product("IXYZ", repeat=count)]


def effect(word, rows):
    """What point [7] says that a word does to a table, a dict of the nonzero entries."""
    power, letters = word
    for port, letter in enumerate(letters):
        new = {}
        for bits, number in rows.items():
            other = bits[:port] + (1 - bits[port],) + bits[port + 1:]
            if letter == "I":
                new[bits] = number
            elif letter == "X":
                new[other] = number
            elif letter == "Z":
                new[bits] = times(number, MINUS) if bits[port] else number
            else:
                new[other] = times(number, I if other[port] else MINUS_I)
        rows = new
    for _ in range(power):
        rows = {bits: times(number, I) for bits, number in rows.items()}
    return rows


def powers(word):
    """A word as a matrix over port bits, by its effect on each table with one entry."""
    count = len(word[1])
    return [sorted(effect(word, {bits: (1, 0, 0, 0, 0)}).items()) for bits in itertools.product((0, 1), repeat=count)]


class Words(Case):
    def check(self, word, second_word):
        found = word_product(word, second_word)
        self.assertEqual([type(found), *map(type, found)], [tuple, int, str])
        count = len(word[1])
        for bits in [(0,) * count, (1,) * count, (0, 1, 1, 0, 1, 0, 0, 1)[:count]]:
            rows = {bits: (1, 2, 3, 4, 0)}
            self.assertEqual(effect(found, rows), effect(word, effect(second_word, rows)), (word, second_word))
        return found

    def test_block(self):
        self.assertEqual(word_product((0, "X"), (0, "Z")), (3, "Y"))

    def test_all_products_of_two_letters(self):
        for word in all_words(1):
            for second_word in all_words(1):
                found = self.check(word, second_word)
                self.assertEqual(powers(found), [sorted(effect(word, dict(rows)).items()) for rows in powers(second_word)])

    def test_by_hand(self):
        for one, other, wanted in (
            ("X", "Y", (1, "Z")), ("Y", "X", (3, "Z")), ("Y", "Z", (1, "X")), ("Z", "Y", (3, "X")), ("Z", "X", (1, "Y")),
            ("X", "Z", (3, "Y")), ("XX", "ZZ", (2, "YY")), ("XYZI", "YZXI", (3, "ZXYI")), ("IXYZ", "IXYZ", (0, "IIII")),
            ("IXYZ", "XIII", (0, "XXYZ")), ("III", "XYZ", (0, "XYZ")), ("XYZ", "III", (0, "XYZ")), ("", "", (0, "")),
        ):
            for power in range(4):
                for second_power in range(4):
                    self.assertEqual(word_product((power, one), (second_power, other)),
                                     ((wanted[0] + power + second_power) % 4, wanted[1]))

    def test_words_of_two_letters(self):
        for word in all_words(2):
            self.check(word, (3, "YZ"))
            self.check((1, "XY"), word)

    def test_words_of_eight_letters(self):
        source = random.Random(1201)
        for _ in range(200):
            count = source.randint(0, 8)
            one, other, third = [(source.randrange(4), "".join(source.choice("IXYZ") for _ in range(count))) for _ in range(3)]
            self.check(one, other)
            self.assertEqual(word_product(word_product(one, other), third), word_product(one, word_product(other, third)))

    def test_errors(self):
        for value in NOT_WORDS:
            for other in ((0, "X"), (0, ""), None, (0, "XX")):
                self.fails(BadWord, None, word_product, value, other)
            for one in ((0, "X"), (3, "XYZIXYZI"), (0, "")):
                self.fails(BadWord, None, word_product, one, value)
        for one, other in (("", "X"), ("X", ""), ("XX", "X"), ("XYZIXYZI", "XYZIXYZ"), ("I", "II"), ("I" * 9, "I" * 9),
                           ("XYZIXYZIX", "XYZIXYZIX")):
            self.fails(BadWord, None, word_product, (0, one), (0, other))
        self.assertEqual(word_product((1, "XYZIXYZI"), (1, "XYZIXYZI")), (2, "IIIIIIII"))


class SymmetryCase(Case):
    def check(self, diagram, few=True):
        """All that the interface says of one diagram; return all words that keep its table."""
        rows = dict(slow_table(diagram) if few else table(diagram))
        count = diagram[0]
        if not rows:
            for call in (symmetries, all_symmetries):
                self.fails(ZeroTable, None, call, diagram)
            self.fails(ZeroTable, None, keeps, diagram, (0, "I" * count))
            return None
        found = all_symmetries(diagram)
        self.assertIs(type(found), tuple)
        self.assertEqual(len(found), 2 ** count)
        self.assertEqual(list(found), sorted(set(found)))
        words = symmetries(diagram)
        self.assertEqual((type(words), len(words)), (tuple, count))
        products = []
        for chosen in itertools.product((False, True), repeat=count):
            product = (0, "I" * count)
            for word, used in zip(words, chosen):
                product = word_product(product, word) if used else product
            products.append(product)
        self.assertEqual(sorted(products), list(found))
        self.assertLessEqual({power for power, _ in found}, {0, 2})
        for word in found if few else words:
            self.assertEqual(effect(word, rows), rows, (diagram, word))
            self.assertIs(keeps(diagram, word), True)
        return found


class Blocks(Case):
    def test_keeps(self):
        self.assertIs(keeps(RED, (2, "Z")), True)

    def test_symmetries(self):
        self.assertEqual(symmetries(RED), ((2, "Z"),))

    def test_all_symmetries(self):
        self.assertEqual(all_symmetries(RED), ((0, "I"), (2, "Z")))


class ByHand(SymmetryCase):
    def test_no_ports(self):
        for diagram in (EMPTY, (0, (), (), (-5, 3)), made(0, ["a red 3"], ["a a crossed"])):
            self.assertEqual(symmetries(diagram), ())
            self.assertEqual(all_symmetries(diagram), ((0, ""),))
            for power in range(4):
                self.assertIs(keeps(diagram, (power, "")), power == 0)

    def test_one_port(self):
        for phase, word in enumerate(((0, "X"), (0, "Y"), (2, "X"), (2, "Y"))):
            self.assertEqual(self.check(made(1, [f"a green {phase}"], ["0 a plain"])), tuple(sorted(((0, "I"), word))))
        for phase, word in enumerate(((0, "Z"), (2, "Y"), (2, "Z"), (0, "Y"))):
            self.assertEqual(self.check(made(1, [f"a red {phase}"], ["0 a plain"])), ((0, "I"), word))

    def test_two_ports(self):
        wire, link = (2, (), (("0", "1", "plain"),), (0, 0)), (2, (), (("0", "1", "crossed"),), (0, 0))
        self.assertEqual(self.check(wire), ((0, "II"), (0, "XX"), (0, "ZZ"), (2, "YY")))
        self.assertEqual(self.check(link), ((0, "II"), (0, "XZ"), (0, "YY"), (0, "ZX")))
        self.assertEqual(self.check(PAIR), ((0, "II"), (0, "XY"), (0, "YX"), (0, "ZZ")))

    def test_a_zero_table(self):
        for diagram in (zero_form(0), zero_form(2), RED[:3] + (None,), made(1, ["a green 2", "b red 0"], ["0 b plain"])):
            self.assertIsNone(self.check(diagram))


class Drawn(SymmetryCase):
    def test_many_diagrams(self):
        found = [self.check(diagram) for diagram in draw_many(1202, 500, ports=4, nodes=6, edges=10)]
        self.assertGreater(len({words for words in found if words}), 150)
        self.assertGreater(sum(words is None for words in found), 50)

    def test_all_words_of_few_letters(self):
        for diagram in draw_many(1203, 90, ports=3, nodes=5, edges=8):
            rows = dict(slow_table(diagram))
            if rows:
                wanted = []
                for word in all_words(diagram[0]):
                    kept = effect(word, rows) == rows
                    self.assertIs(keeps(diagram, word), kept, (diagram, word))
                    wanted += [word] * kept
                self.assertEqual(all_symmetries(diagram), tuple(wanted))

    def test_forms(self):
        source = random.Random(1204)
        for _ in range(40):
            normal = draw_form(source, source.randint(0, 8))
            found = self.check(normal, few=False)
            rows = dict(table(normal))
            for _ in range(12):
                power, letters = source.choice(found)
                self.assertIs(keeps(normal, ((power + 2) % 4, letters)), False)
                word = (source.randrange(4), "".join(source.choice((letter, "I", "Z", "X")) for letter in letters))
                self.assertIs(keeps(normal, word), effect(word, rows) == rows)
                self.assertIs(keeps(normal, word), word in found)

    def test_eight_ports(self):
        source = random.Random(1205)
        for at in range(16):
            draw = draw_mixed if at % 2 else draw_simple
            self.check(draw(source, 8, source.randint(1, 9), source.randint(2, 16)), few=at < 3)

    def test_as_large_as_possible(self):
        source = random.Random(1206)
        for at in range(30):
            draw = draw_mixed if at % 3 == 0 else draw_simple
            self.check(draw(source, source.randint(0, 8), 24, source.choice((30, 80, 192)), 500), few=False)

    def test_a_factor_does_not_matter(self):
        for diagram in draw_many(1207, 40, ports=4, nodes=6, edges=10):
            if slow_table(diagram):
                for scalar in ((500, 1), (-500, 6), (3, 4)):
                    self.assertEqual(all_symmetries(diagram[:3] + (scalar,)), all_symmetries(diagram))

    def test_one_table_for_one_group(self):
        groups = {}
        for diagram in draw_many(1208, 900, ports=2, nodes=3, edges=4, power=0):
            rows = slow_table(diagram)
            if rows:
                first = rows[0][1]
                other, other_first = groups.setdefault(all_symmetries(diagram), (rows, first))
                self.assertEqual([(bits, times(number, other_first)) for bits, number in rows],
                                 [(bits, times(number, first)) for bits, number in other])
        self.assertGreater(len(groups), 40)


class Errors(Case):
    def test_diagrams_come_first(self):
        for value in ODD_VALUES + ((1, (), (), (0, 0)), list(RED)):
            for word in ((0, "X"), None, (0, ""), (4, "X")):
                self.fails(BadDiagram, None, keeps, value, word)
            self.fails(BadDiagram, None, symmetries, value)
            self.fails(BadDiagram, None, all_symmetries, value)

    def test_then_words(self):
        zero, large = RED[:3] + (None,), sized(25, 201, (501, 0), 1)
        for diagram in (RED, zero, large):
            for value in NOT_WORDS + ((0, ""), (0, "XX"), (0, "IIIIIIII")):
                self.fails(BadWord, None, keeps, diagram, value)
        for diagram in (EMPTY, (0, (), (), None), sized(25, 0, (0, 0))):
            for value in NOT_WORDS + ((0, "I"),):
                self.fails(BadWord, None, keeps, diagram, value)
        self.assertIs(keeps(EMPTY, (0, "")), True)

    def test_then_the_size_then_a_zero_table(self):
        for scalar in ((501, 0), (-501, 3)):
            for nodes, edges, limit in ((25, 201, 24), (24, 201, 200), (24, 200, 500)):
                diagram = sized(nodes, edges, scalar, 2)
                for call, more in ((keeps, ((0, "II"),)), (symmetries, ()), (all_symmetries, ())):
                    self.fails(TooLarge, limit, call, diagram, *more)
        for diagram, error in ((sized(25, 9, None, 2), TooLarge), (sized(24, 9, None, 2), ZeroTable)):
            for call, more in ((keeps, ((0, "II"),)), (symmetries, ()), (all_symmetries, ())):
                self.fails(error, 24, call, diagram, *more)
        hidden = (1, (("a", "green", 2), ("b", "green", 0)), (("0", "b", "plain"),), (501, 0))
        self.fails(TooLarge, 500, symmetries, hidden)
        self.fails(ZeroTable, None, symmetries, hidden[:3] + ((500, 0),))

    def test_at_the_limits(self):
        for scalar in ((500, 1), (-500, 0)):
            diagram = sized(24, 200, scalar, 8)
            self.assertEqual(len(all_symmetries(diagram)), 256)
            self.assertIs(keeps(diagram, (0, "ZZIIIIII")), True)
            self.assertIs(keeps(diagram, (0, "ZIIIIIII")), False)


class Helpers(unittest.TestCase):
    def test_the_effect_of_y(self):
        rows = {(0,): (1, 0, 0, 0, 0), (1,): (5, 0, 0, 0, 0)}
        self.assertEqual(effect((0, "Y"), rows), {(0,): (0, 0, -5, 0, 0), (1,): (0, 0, 1, 0, 0)})
        self.assertEqual(turned([1, 0, 0, 0]), [0, 1, 0, 0])


if __name__ == "__main__":
    unittest.main()
