"""Readers: point [8], and the interface of reading.py."""

import random
import unittest

from checking import Case, sized
from drawn import EMPTY, NAMES, PAIR, RED, draw_many, draw_mixed, made, steps_at, zero_form
from spelling import changed_text, slow_bad_line, slow_bad_step_line, slow_step_of, slow_text
from test_texts import GOOD, NOT_STEPS

from spiderwires.diagrams import is_diagram
from spiderwires.errors import BadLine
from spiderwires.forms import form, form_steps
from spiderwires.reading import read_diagram, read_steps
from spiderwires.steps import walk
from spiderwires.texts import diagram_text, steps_text

DIAGRAM_WORDS = (
    "ports", "scalar", "zero", "node", "edge", "green", "red", "plain", "crossed", "a", "b", "pa", "zzzzzzzz", "aaaaaaaaa", "0", "1",
    "2", "3", "4", "7", "8", "9", "-1", "-0", "00", "01", "+1", "2000", "-2000", "2001", "-2001", "A", "", "1.0", "None", "Node",
)
STEP_WORDS = (
    "recolor", "fuse", "drop", "insert", "unloop", "cancel", "evaluate", "complement", "pivot", "rename", "clear", "plain", "crossed",
    "a", "n", "zzzzzzzz", "aaaaaaaaa", "0", "1", "7", "8", "2", "00", "-0", "01", "True", "A", "",
)
NOT_STRINGS = (
    None, True, False, 0, 1, 1.5, b"", b"ports 0\nscalar 0 0", [], ["ports 0", "scalar 0 0"], (), ("clear",), {}, {0: ""}, set(),
    frozenset(), object(), len, RED, EMPTY, range(2),
)
RED_LINES = ("ports 1", "scalar 0 0", "node r red 2", "edge 0 r plain")


def text_of(*lines):
    return "\n".join(lines)


class ReadingCase(Case):
    def check(self, text):
        """The reader of diagrams agrees with the words of the document; return the line."""
        wanted = slow_bad_line(text)
        if wanted is None:
            found = read_diagram(text)
            self.assertTrue(is_diagram(found))
            self.assertEqual(slow_text(found), text)
        else:
            self.fails(BadLine, wanted, read_diagram, text)
        return wanted

    def check_steps(self, text):
        """The reader of steps agrees with the words of the document; return the line."""
        wanted = slow_bad_step_line(text)
        if wanted is None:
            found = read_steps(text)
            self.assertIs(type(found), tuple)
            self.assertEqual(found, tuple(slow_step_of(line) for line in text.split("\n") if text))
        else:
            self.fails(BadLine, wanted, read_steps, text)
        return wanted

    def bad(self, line, *lines):
        """The lines are no text of a diagram: this line is the one that is named."""
        self.fails(BadLine, line, read_diagram, text_of(*lines))
        self.assertEqual(slow_bad_line(text_of(*lines)), line)

    def bad_steps(self, line, text):
        self.fails(BadLine, line, read_steps, text)
        self.assertEqual(slow_bad_step_line(text), line)


class Blocks(ReadingCase):
    def test_read_diagram(self):
        self.bad(3, "ports 1", "scalar 0 0")

    def test_read_steps(self):
        self.assertEqual(read_steps("drop a\nclear"), (("drop", "a"), ("clear",)))


class DiagramsAgain(ReadingCase):
    def test_drawn_ones(self):
        for diagram in draw_many(1601, 400, ports=8, nodes=9, edges=14, power=2000):
            found = read_diagram(diagram_text(diagram))
            self.assertEqual(found, diagram)
            self.assertEqual([type(item) for item in found[:3]], [int, tuple, tuple])
            if diagram[3] is None or abs(diagram[3][0]) <= 500:
                self.assertEqual(read_diagram(diagram_text(form(diagram))), form(diagram))

    def test_some(self):
        for diagram in (EMPTY, RED, PAIR, zero_form(0), zero_form(8), (0, (), (), None), made(2, [], ["0 1 crossed"])):
            self.assertEqual(read_diagram(diagram_text(diagram)), diagram)

    def test_large_ones(self):
        source = random.Random(1602)
        names = sorted({"".join(source.choice("abcdefghijklmnopqrstuvwxyz") for _ in range(source.randint(1, 8))) for _ in range(99)})
        for scalar in ((2000, 7), (-2000, 0), None):
            self.assertEqual(read_diagram(diagram_text(sized(80, 1500, scalar, 8))), sized(80, 1500, scalar, 8))
            nodes = tuple((name, source.choice(("green", "red")), source.randrange(4)) for name in names[:80])
            ends = [sorted((source.choice(names[:80]), source.choice(names[:80]))) for _ in range(1496)]
            edges = sorted([(str(port), names[port], "plain") for port in range(4)] + [
                (u, v, source.choice(("crossed", "plain"))) for u, v in ends])
            diagram = (4, nodes, tuple(edges), scalar)
            self.assertTrue(is_diagram(diagram))
            self.assertEqual(read_diagram(slow_text(diagram)), diagram)

    def test_all_scalars(self):
        for k in (*range(-21, 22), -2000, -1999, -1000, 1000, 1999, 2000):
            for j in range(8):
                self.assertEqual(read_diagram(f"ports 0\nscalar {k} {j}"), (0, (), (), (k, j)))
        self.assertEqual(read_diagram("ports 0\nscalar zero"), (0, (), (), None))


class ChangedDiagrams(ReadingCase):
    def test_one_change(self):
        source = random.Random(1603)
        good, seen = 0, set()
        for diagram in draw_many(1604, 130, ports=4, nodes=5, edges=6, power=2000):
            text = slow_text(diagram)
            for _ in range(30):
                found = self.check(changed_text(source, text, DIAGRAM_WORDS))
                good += found is None
                seen.add(found)
        self.assertGreater(good, 200)
        self.assertGreater(len(seen), 14)

    def test_more_changes(self):
        source = random.Random(1605)
        for diagram in draw_many(1606, 150, ports=3, nodes=3, edges=4):
            text = slow_text(diagram)
            for _ in range(12):
                text = changed_text(source, text, DIAGRAM_WORDS)
                self.check(text)

    def test_each_word_in_each_place(self):
        words = [line.split(" ") for line in slow_text(made(2, ["a green 1", "b red 0"], ["0 a plain", "1 b crossed", "a b plain"])).split("\n")]
        for at, line in enumerate(words):
            for place in range(len(line)):
                for word in DIAGRAM_WORDS:
                    changed = [list(row) for row in words]
                    changed[at][place] = word
                    self.check("\n".join(" ".join(row) for row in changed))

    def test_each_beginning(self):
        source = random.Random(1607)
        for _ in range(12):
            text = slow_text(draw_mixed(source, 3, 3, 4))
            for end in range(len(text)):
                self.check(text[:end])


class WrongDiagrams(ReadingCase):
    def test_other_kinds(self):
        for value in NOT_STRINGS:
            self.fails(BadLine, 0, read_diagram, value)

    def test_the_empty_string(self):
        self.bad(1, "")
        self.bad(1, "", "")
        self.bad(1, "", "ports 0", "scalar 0 0")

    def test_the_first_line(self):
        for line in ("ports", "ports ", " ports 0", "ports 0 ", "ports  0", "ports\t0", "ports 9", "ports -1", "ports 00", "ports 01",
                     "ports -0", "ports +1", "ports 1.0", "ports one", "port 0", "Ports 0", "ports 0 0", "scalar 0 0", "0", " ",
                     "ports 10", "ports 999999999999999999999999", "ports True", "ports None"):
            self.bad(1, line)
            self.bad(1, line, "scalar 0 0")
            self.bad(1, line, "what")

    def test_the_second_line(self):
        self.bad(2, "ports 0")
        self.bad(2, "ports 8")
        for line in ("", "scalar", "scalar 0", "scalar 0 0 0", "scalar zero 0", "scalar zero zero", "scalar 0 zero", "scalar None", "zero",
                     "scalar Zero", "scalar 0 8", "scalar 0 -1", "scalar 0 -0", "scalar -0 0", "scalar 2001 0", "scalar -2001 0",
                     "scalar 00 0", "scalar 0 00", "scalar 01 0", "scalar -01 0", "scalar +1 0", "scalar - 0", "scalar --1 0",
                     "scalar 1_0 0", "scalar 0x1 0", "scalar 1e3 0", "scalar 0  0", "scalar  0 0", "scalar 0 0 ", " scalar 0 0",
                     "scalar\t0 0", "scalar 99999999999999999999 0", "scalar zero ", "node a green 0", "ports 0", "scalar 0 7.", "scalar 5 10"):
            self.bad(2, "ports 0", line)
            self.bad(2, "ports 1", line, *RED_LINES[2:])

    def test_other_lines(self):
        for line in ("", " ", "node", "edge", "node b", "node b green", "node b green 4", "node b green -1", "node b green 00",
                     "node b green -0", "node b green 0 0", "node b blue 0", "node b Green 0", "node B green 0", "node b1 green 0",
                     "node 0 green 0", "node  green 0", "node bbbbbbbbb green 0", "node b green 0 ", " node b green 0", "node b  green 0",
                     "node\tb green 0", "node b green +1", "node b green 1.0", "Node b green 0", "nodes b green 0", "b green 0",
                     "edge a a", "edge a a odd", "edge a a Plain", "edge a a plain 0", "edge a a plain ", "edge  a a plain", "edge a b plain",
                     "edge b a plain", "edge a 0 plain", "edge 0 0 plain", "edge 0 9 plain", "edge 1 a plain", "edge a a plain plain",
                     "edge A A plain", "edge -1 a plain", "edge 00 a plain", "ports 0", "scalar 0 0", "scalar zero", "node node", "edge 0 a"):
            self.bad(4, "ports 1", "scalar 0 0", "node a red 0", line)
            self.bad(4, "ports 1", "scalar 0 0", "node a red 0", line, "edge 0 a plain")
            self.bad(4, "ports 1", "scalar 0 0", "node a red 0", line, "what")

    def test_the_order_of_nodes(self):
        for first, second in (("b", "a"), ("a", "a"), ("ab", "a"), ("zz", "zy"), ("a", "a")):
            for color, phase in (("red", 3), ("green", 0)):
                self.bad(4, "ports 0", "scalar 0 0", f"node {first} green 1", f"node {second} {color} {phase}")
        self.check(text_of("ports 0", "scalar 0 0", "node a green 1", "node aa green 1", "node b green 1"))

    def test_a_node_behind_an_edge(self):
        self.bad(5, "ports 0", "scalar 0 0", "node a green 1", "edge a a plain", "node b green 1")
        self.bad(4, "ports 2", "scalar 0 0", "edge 0 1 plain", "node b green 1")

    def test_the_order_of_edges(self):
        head = ("ports 0", "scalar 0 0", "node a green 1", "node b red 2", "node c red 0")
        edges = ["edge a a crossed", "edge a a plain", "edge a b crossed", "edge a c crossed", "edge b b plain", "edge b c crossed",
                 "edge c c crossed", "edge c c plain"]
        for one in edges:
            for other in edges:
                if one > other:
                    self.bad(7, *head, one, other)
                    self.bad(7, *head, one, other, one)
                else:
                    self.assertIsNone(self.check(text_of(*head, one, other)))

    def test_the_order_of_ends(self):
        for edge in ("b a", "a 0", "1 0", "b 1"):
            self.bad(5, "ports 2", "scalar 0 0", "node a green 1", "node b green 1", f"edge {edge} plain")

    def test_ports_with_two_edges(self):
        head = ("ports 3", "scalar 0 0", "node a green 1", "node b green 1")
        for mode in ("plain", "crossed"):
            self.bad(6, *head, "edge 0 a crossed", f"edge 0 b {mode}")
            self.bad(6, *head, "edge 0 a plain", "edge 0 a plain", "edge 1 a plain", "edge 2 a plain")
            self.bad(5, *head, f"edge 0 0 {mode}", "edge 1 2 plain")
            self.bad(6, *head, "edge 0 1 crossed", f"edge 1 2 {mode}")
            self.bad(6, *head, "edge 0 2 crossed", f"edge 1 2 {mode}")
            self.bad(6, *head, "edge 0 2 crossed", f"edge 2 a {mode}")
            self.bad(7, *head, "edge 0 a crossed", "edge 1 a crossed", f"edge 1 b {mode}")
            self.bad(7, *head, "edge 0 a crossed", "edge 1 2 crossed", f"edge 2 2 {mode}")

    def test_incomplete_texts(self):
        self.bad(3, "ports 1", "scalar zero")
        self.bad(4, "ports 1", "scalar 0 0", "node r red 2")
        self.bad(5, "ports 2", "scalar 0 0", "node r red 2", "edge 0 r plain")
        self.bad(5, "ports 2", "scalar 0 0", "node r red 2", "edge 1 r plain")
        self.bad(4, "ports 3", "scalar 0 0", "edge 0 2 plain")
        self.bad(6, "ports 3", "scalar 0 0", "node r red 2", "edge 0 2 plain", "edge r r plain")
        self.bad(5, *RED_LINES, "")
        self.bad(4, *RED_LINES[:3], "")

    def test_the_number_of_nodes(self):
        names = [one + other for one in "abcdefgh" for other in "abcdefghijk"]
        lines = [f"node {name} red 1" for name in names]
        for many in (79, 80):
            self.assertEqual(len(read_diagram(text_of("ports 0", "scalar 0 0", *lines[:many]))[1]), many)
        self.bad(83, "ports 0", "scalar 0 0", *lines[:81])
        self.bad(83, "ports 0", "scalar 0 0", *lines)
        self.bad(83, "ports 1", "scalar 0 0", *lines[:81], "what")
        self.bad(83, "ports 1", "scalar 0 0", *lines[:80])

    def test_the_number_of_edges(self):
        head = ("ports 0", "scalar 0 0", "node a red 1")
        for many in (1499, 1500):
            self.assertEqual(len(read_diagram(text_of(*head, *["edge a a plain"] * many))[2]), many)
        for many in (1501, 1503):
            self.fails(BadLine, 1504, read_diagram, text_of(*head, *["edge a a plain"] * many))
        self.fails(BadLine, 1504, read_diagram, text_of("ports 1", *head[1:], *["edge a a plain"] * 1500))

    def test_whitespace(self):
        text = text_of(*RED_LINES)
        for at, letter in enumerate(text):
            for more in (" ", "\n", "\t", "  ", "\n\n"):
                self.check(text[:at] + more + text[at:])
                if letter in " \n":
                    self.check(text[:at] + more + text[at + 1:])
        self.bad(5, text + "\n")
        self.bad(4, text + " ")
        self.bad(1, " " + text)
        self.bad(1, "\n" + text)


class StepsAgain(ReadingCase):
    def test_each_kind(self):
        for step in GOOD:
            found = read_steps(steps_text((step,)))
            self.assertEqual(found, (step,))
            self.assertEqual([type(item) for item in found[0]], [type(item) for item in step])
        self.assertEqual(read_steps(steps_text(GOOD)), GOOD)
        self.assertEqual(read_steps(steps_text(list(GOOD))), GOOD)

    def test_drawn_ones(self):
        source = random.Random(1608)
        for diagram in draw_many(1609, 80, ports=8, nodes=6, edges=9):
            for steps in (tuple(steps_at(diagram, source)), form_steps(diagram)):
                self.assertEqual(read_steps(steps_text(steps)), steps)
            self.assertEqual(walk(diagram, read_steps(steps_text(form_steps(diagram)))), form(diagram))

    def test_no_steps(self):
        self.assertEqual(read_steps(""), ())
        self.assertEqual(read_steps(steps_text([])), ())


class ChangedSteps(ReadingCase):
    def test_one_change(self):
        source = random.Random(1610)
        good, seen = 0, set()
        for _ in range(150):
            text = steps_text([source.choice(GOOD) for _ in range(source.randint(0, 6))])
            for _ in range(25):
                found = self.check_steps(changed_text(source, text, STEP_WORDS))
                good += found is None
                seen.add(found)
        self.assertGreater(good, 300)
        self.assertGreater(len(seen), 6)

    def test_each_word_in_each_place(self):
        for step in GOOD:
            line = [str(item) for item in step]
            for place in range(len(line)):
                for word in (*STEP_WORDS, *NAMES[:4]):
                    self.check_steps(" ".join([*line[:place], word, *line[place + 1:]]))
                    self.check_steps("clear\n" + " ".join([*line[:place], word, *line[place:]]))

    def test_each_character(self):
        text = "insert 0 a plain b 1\nunloop a crossed"
        for at in range(len(text) + 1):
            for letter in " \n\t0129azA-~":
                self.check_steps(text[:at] + letter + text[at:])
                self.check_steps(text[:at] + letter + text[at + 1:])


class WrongSteps(ReadingCase):
    def test_other_kinds(self):
        for value in NOT_STRINGS:
            self.fails(BadLine, 0, read_steps, value)

    def test_lines_that_are_no_step(self):
        for line in ("recolor", "recolor a b", "Recolor a", "recolor A", "recolor 0", "recolor aaaaaaaaa", "fuse a", "fuse a 7", "drop a b",
                     "insert a b plain n", "insert b a plain n 0", "insert 8 a plain n 0", "insert a b odd n 0", "insert a b plain 0 0",
                     "insert a b plain n 2", "insert a b plain n True", "insert a b plain n 00", "insert a b plain n -0",
                     "insert a b plain n -1", "insert a b plain n 01", "insert a 7 plain n 0", "insert a b plain n 0 0", "unloop a b",
                     "insert a b plain n +1", "insert a b plain n 1 ", "insert a b plain n", "insert 1", "insert 0 1", "insert",
                     "unloop plain a", "cancel a b c", "evaluate", "rename a b1", "clear a", "clear ", " clear", "close a", "", " ", "drop  a",
                     "drop\ta", "drop a\t", "0", "1", "step clear", "('clear',)", "clear,"):
            self.bad_steps(2, "clear\n" + line)
            self.bad_steps(2, text_of("drop a", line, "clear"))
            self.bad_steps(3, text_of("drop a", "insert 0 1 plain n 0", line, "what", line))
            if line:
                self.bad_steps(1, line)
                self.bad_steps(1, text_of(line, "what"))

    def test_empty_lines(self):
        for text, line in (("\n", 1), ("clear\n", 2), ("\nclear", 1), ("clear\n\nclear", 2), ("\n\n", 1), ("drop a\nclear\n\n", 3)):
            self.bad_steps(line, text)

    def test_texts_of_what_is_not_well_formed(self):
        for wrong in NOT_STEPS:
            if isinstance(wrong, tuple) and all(isinstance(item, str) for item in wrong) and wrong[-1:] not in (("0",), ("1",)):
                self.check_steps("clear\n" + " ".join(wrong))


if __name__ == "__main__":
    unittest.main()
