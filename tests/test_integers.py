"""Integers in texts: the spellings of point [8] and the bounds of points [1] and [2], and what reading them costs."""

import sys
import unittest

from checking import Case
from spelling import slow_bad_line, slow_bad_step_line

from spiderwires.errors import BadLine
from spiderwires.reading import read_diagram, read_steps

# Second lines of a text that begins "ports 0".
GOOD_SCALARS = {"scalar 0 0": (0, 0), "scalar 2000 7": (2000, 7), "scalar -2000 0": (-2000, 0), "scalar zero": None}
WRONG_SCALARS = (
    "scalar 2001 0", "scalar -2001 0", "scalar 0 8", "scalar 0 -1", "scalar -0 0", "scalar 0 00", "scalar 01 0", "scalar +1 0",
    "scalar 1.0 0", "scalar 1", "scalar 1 0 0", "scalar ", "scalar zero 0", "scalar 1 zero", "scalar 0 -0", "scalar 0 01",
    "scalar 0 +1", "scalar 0 1.0", "scalar", "scalar  0", "scalar 0 ", "scalar - 0", "scalar 0 -",
)
WRONG_COUNTS = (
    "ports 9", "ports -1", "ports -0", "ports 00", "ports 01", "ports +1", "ports 1.0", "ports", "ports ", "ports 1 0", "ports 1 0 0",
    "ports zero", "ports zero 0", "ports 1 zero", "ports -", "ports 2001", "ports 1 ",
)
WRONG_PHASES = (
    "node a green 4", "node a green -1", "node a green -0", "node a green 00", "node a green 01", "node a green +1", "node a green 1.0",
    "node a green", "node a green ", "node a green 1 0", "node a green 1 0 0", "node a green zero", "node a green zero 0",
    "node a green 1 zero", "node a green -", "node a green 2001", "node a green 1 ",
)
# Words that spell no integer, or not in the one way that is allowed.
NO_SPELLINGS = (
    "", "-", "+", "--", "-0", "+0", "00", "-00", "01", "-01", "001", "010", "+1", "++1", "-+1", "--1", "- 1", "1-", "1.0", "0.0", "1.",
    ".1", "-1.0", "1e0", "1e3", "0x1", "0b1", "0o7", "1_0", "1_000", "_1", "1_", "1,0", "zero", "one", "None", "True", "False", "a", "1a",
    "a1", "\t1", "1\t", "\t", "(1)", "[0]", "'0'", "0-", "~0", "1/1", "1+0", "0 ", " 0", "0000000000000000000",
)
# The four places of integers in the text of a diagram: its line, the line with the word left out, and the bounds.
PLACES = (
    (1, "ports {}", 0, 8),
    (2, "scalar {} 0", -2000, 2000),
    (2, "scalar 0 {}", 0, 7),
    (3, "node a green {}", 0, 3),
)
HEAD = ("ports 0", "scalar 0 0")


def complete(count):
    """A text with this many ports, each joined to the one node."""
    edges = [f"edge {port} a plain" for port in range(count)]
    return "\n".join([f"ports {count}", "scalar zero", "node a green 0", *edges])


def place_text(line, pattern, word):
    """A text with the word in its place."""
    return "\n".join([*HEAD[:line - 1], pattern.format(word)])


def long_words(many):
    """Words of this many characters, and of one or two more, nearly all of them digits."""
    digits = ("0" * many, "1" * many, "9" * many, "1" + "0" * (many - 1), "0" * (many - 1) + "1", "0" * (many - 1) + "7")
    return [*digits, *["-" + word for word in digits], "+" + digits[1], digits[1] + "-", "--" + digits[1], digits[1] + ".0"]


def answer(call, text):
    """What the reader returns for a text, or the number of the line that it names."""
    try:
        return call(text)
    except BadLine as error:
        return error.line


def work(text, call=read_diagram):
    """The number of Python's instructions that a reading of the text takes: it does not vary as a time does."""
    counts = []

    def trace(frame, event, _):
        frame.f_trace_opcodes = True
        counts[-1] += event == "opcode"
        return trace

    before = sys.gettrace()
    # Some versions of Python begin to count in the midst of the first reading.
    for _ in range(2):
        counts.append(0)
        sys.settrace(trace)
        try:
            answer(call, text)
        finally:
            sys.settrace(before)
    return counts[-1]


class IntegerCase(Case):
    def wrong(self, line, text):
        """The text breaks a rule in this line, whatever comes behind it."""
        for more in ("", "\n", "\nscalar 0 0", "\nnode b red 2", "\nwhat 00"):
            self.fails(BadLine, line, read_diagram, text + more)
        self.assertEqual(slow_bad_line(text), line)


class Scalars(IntegerCase):
    def test_lines_that_are_read(self):
        for line, scalar in GOOD_SCALARS.items():
            self.assertEqual(read_diagram("ports 0\n" + line), (0, (), (), scalar))

    def test_lines_that_are_wrong(self):
        for line in WRONG_SCALARS:
            self.wrong(2, "ports 0\n" + line)
            self.wrong(2, "ports 3\n" + line)

    def test_each_power(self):
        for k in range(-2100, 2101):
            for j in (0, 7):
                text = f"ports 0\nscalar {k} {j}"
                if -2000 <= k <= 2000:
                    found = read_diagram(text)
                    self.assertEqual(found, (0, (), (), (k, j)))
                    self.assertEqual([type(item) for item in found[3]], [int, int])
                else:
                    self.fails(BadLine, 2, read_diagram, text)

    def test_each_turn(self):
        for j in range(-30, 130):
            for k in (-2000, -1, 0, 1, 2000):
                text = f"ports 0\nscalar {k} {j}"
                if 0 <= j <= 7:
                    self.assertEqual(read_diagram(text), (0, (), (), (k, j)))
                else:
                    self.fails(BadLine, 2, read_diagram, text)


class Counts(IntegerCase):
    def test_each_count(self):
        for count in range(-30, 130):
            if 0 <= count <= 8:
                found = read_diagram(complete(count))
                self.assertEqual((found[0], type(found[0]), len(found[2])), (count, int, count))
            else:
                self.fails(BadLine, 1, read_diagram, f"ports {count}")
                self.fails(BadLine, 1, read_diagram, f"ports {count}\nscalar zero\nnode a green 0")

    def test_lines_that_are_wrong(self):
        for line in WRONG_COUNTS:
            self.wrong(1, line)


class Phases(IntegerCase):
    def test_each_phase(self):
        for phase in range(-30, 130):
            for head in ("ports 0\nscalar 0 0", "ports 0\nscalar zero"):
                text = f"{head}\nnode a green {phase}\nnode b red 3"
                if 0 <= phase <= 3:
                    found = read_diagram(text)
                    self.assertEqual(found[1], (("a", "green", phase), ("b", "red", 3)))
                    self.assertEqual([type(node[2]) for node in found[1]], [int, int])
                else:
                    self.fails(BadLine, 3, read_diagram, text)

    def test_lines_that_are_wrong(self):
        for line in WRONG_PHASES:
            self.wrong(3, "ports 0\nscalar 0 0\n" + line)
            self.wrong(4, "ports 1\nscalar 0 0\nnode a red 0\n" + line.replace("a", "b", 1))


class Spellings(IntegerCase):
    def test_no_spellings(self):
        for line, pattern, _, _ in PLACES:
            for word in NO_SPELLINGS:
                self.wrong(line, place_text(line, pattern, word))

    def test_one_spelling_of_each_integer(self):
        for line, pattern, low, high in PLACES:
            for value in sorted({*range(low, min(low + 12, high) + 1), *range(-12, 13), *range(high - 12, high + 1)}):
                digits = str(abs(value))
                for word in ("0" + digits, "00" + digits, "+" + digits, "-0" + digits, "--" + digits, digits + ".0", digits + "e0",
                             "\t" + digits, digits + "\t", digits + "_", "_" + digits, "(" + digits + ")", digits + " "):
                    self.wrong(line, place_text(line, pattern, word))

    def test_integers_out_of_range(self):
        for line, pattern, low, high in PLACES:
            for far in (1, 2, 9, 10, 99, 100, 999, 10000, 10 ** 9, 2 ** 31, 2 ** 63, 2 ** 64, 10 ** 30):
                self.wrong(line, place_text(line, pattern, high + far))
                self.wrong(line, place_text(line, pattern, low - far))

    def test_two_wrong_words(self):
        for one in NO_SPELLINGS:
            for other in ("", "-0", "00", "8", "9" * 900):
                self.wrong(2, f"ports 0\nscalar {one} {other}")
                self.wrong(2, f"ports 0\nscalar {other} {one}")


class LongWords(IntegerCase):
    def test_words_of_each_length(self):
        for line, pattern, low, high in PLACES:
            spelled = {str(value): value for value in range(low, high + 1)}
            for word in (word for many in range(1, 1001) for word in long_words(many)):
                found = answer(read_diagram, place_text(line, pattern, word))
                if word not in spelled:
                    self.assertEqual(found, line, (line, word))
                elif line == 1:
                    self.assertEqual(found, 2, word)
                else:
                    self.assertIn(spelled[word], found[3] if line == 2 else found[1][0], (line, word))

    def test_long_words_are_named_by_their_line(self):
        for many in (5, 6, 19, 20, 100, 639, 640, 641, 899, 900, 999, 1000):
            for word in long_words(many):
                for line, pattern, _, _ in PLACES:
                    self.wrong(line, place_text(line, pattern, word))
                self.wrong(2, f"ports 0\nscalar {word} {word}")

    def test_longer_words(self):
        # Nothing is promised for these; but Python itself refuses to convert a word of more than 4,300 digits.
        for word in ("1" * 4301, "-" + "1" * 4301, "0" * 5000, "9" * 90000):
            for line, pattern, _, _ in PLACES:
                self.fails(BadLine, line, read_diagram, place_text(line, pattern, word))

    def test_zeros_before_and_behind(self):
        for zeros in (1, 2, 3, 4, 5, 17, 640, 896):
            for line, pattern, low, high in PLACES:
                for value in (low, low + 1, 1, high - 1, high):
                    sign = "-" if value < 0 else ""
                    self.wrong(line, place_text(line, pattern, sign + "0" * zeros + str(abs(value))))
                    if abs(value) * 10 ** zeros > high:
                        self.wrong(line, place_text(line, pattern, str(value) + "0" * zeros))


class Parities(Case):
    def test_the_parity_of_an_inserted_edge(self):
        for parity in (0, 1):
            found = read_steps(f"insert a b plain n {parity}")
            self.assertEqual(found, (("insert", "a", "b", "plain", "n", parity),))
            self.assertIs(type(found[0][5]), int)

    def test_other_words(self):
        words = [word for many in (2, 3, 4, 5, 6, 20, 640, 900) for word in long_words(many)]
        for word in (*NO_SPELLINGS, "2", "-1", "9", "10", *words):
            self.fails(BadLine, 2, read_steps, f"clear\ninsert a b plain n {word}\nclear")
            self.assertEqual(slow_bad_step_line(f"clear\ninsert a b plain n {word}"), 2)


class Cost(Case):
    """No reading of an integer goes through all integers within its bounds."""

    def test_the_scalar(self):
        usual = work("ports 0\nscalar zero")
        self.assertGreater(usual, 100)
        for line in (*GOOD_SCALARS, *WRONG_SCALARS, "scalar 1999 3", "scalar -1 1", "scalar " + "9" * 900 + " 0", "scalar 0 " + "0" * 900):
            self.assertLess(work("ports 0\n" + line), 3 * usual, line)

    def test_the_count_of_ports(self):
        usual = work("ports 0\nscalar zero")
        for line in (*WRONG_COUNTS, "ports 0", "ports 8", "ports " + "9" * 900):
            self.assertLess(work(line), 3 * usual, line)

    def test_a_scalar_and_a_phase(self):
        scalar = work("ports 0\nscalar 2000 0") - work("ports 0")
        phase = work("ports 0\nscalar zero\nnode a green 0") - work("ports 0\nscalar zero")
        self.assertGreater(phase, 50)
        self.assertLess(scalar, 3 * phase)

    def test_a_parity(self):
        usual = work("insert a b plain n 0", read_steps)
        for word in ("1", "2", "00", "-", "9" * 900):
            self.assertLess(work("insert a b plain n " + word, read_steps), 2 * usual, word)


if __name__ == "__main__":
    unittest.main()
