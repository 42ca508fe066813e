"""Programs: point [6], and the interface of programs.py."""

import random
import unittest

from checking import Case, ODD_VALUES
from drawn import ZERO, all_bits, made, scaled, slow_table, turned

from spiderwires.diagrams import is_diagram
from spiderwires.errors import BadProgram, BadWidth, TooLarge
from spiderwires.forms import form
from spiderwires.programs import program_diagram, program_form, same_program
from spiderwires.tables import table

WORDS = ("phase", "cross", "link", "add", "swap")
NODES = {"phase": 1, "link": 2, "add": 2}


def instructions(width):
    """All instructions of programs of this width."""
    found = [("phase", q, t) for q in range(width) for t in range(4)] + [("cross", q) for q in range(width)]
    return found + [(word, q, r) for word in WORDS[2:] for q in range(width) for r in range(width) if q != r]


def act(instruction, rows):
    """What an instruction does to rows, a dict from bits to four coefficients, but for the factor of "cross"."""
    word, q, *rest = instruction
    found = {}
    for bits, items in rows.items():
        targets = [(list(bits), list(items))]
        if word == "phase":
            for _ in range(2 * rest[0] * bits[q]):
                targets[0] = (targets[0][0], turned(targets[0][1]))
        elif word == "cross":
            zero, one = list(bits), list(bits)
            zero[q], one[q] = 0, 1
            targets = [(zero, items), (one, [-item if bits[q] else item for item in items])]
        elif word == "link" and bits[q] and bits[rest[0]]:
            targets = [(bits, [-item for item in items])]
        elif word == "add":
            targets[0][0][rest[0]] = (bits[rest[0]] + bits[q]) % 2
        elif word == "swap":
            targets[0][0][q], targets[0][0][rest[0]] = bits[rest[0]], bits[q]
        for place, more in targets:
            before = found.get(tuple(place), [0, 0, 0, 0])
            found[tuple(place)] = [a + b for a, b in zip(before, more)]
    return found


def slow_rows(width, program):
    """The table of a program, from what its instructions do one after another."""
    crosses = sum(instruction[0] == "cross" for instruction in program)
    found = []
    for bits in all_bits(width):
        rows = {bits: [1, 0, 0, 0]}
        for instruction in program:
            rows = act(instruction, rows)
        found += [(bits + out, scaled(items, -crosses, 0)) for out, items in rows.items()]
    return sorted((bits, number) for bits, number in found if number != ZERO)


def nodes_of(program):
    return sum(NODES.get(instruction[0], 0) for instruction in program)


def draw_program(source, width, many, most=10 ** 6):
    """A program of as many instructions as possible, of which the diagram has at most this many nodes."""
    found, choice = [], instructions(width)
    for _ in range(many):
        instruction = source.choice(choice)
        if nodes_of(found + [instruction]) <= most:
            found.append(instruction)
    return found


class ProgramCase(Case):
    def check(self, width, program, slow=True):
        """The table and the bounds of the diagram, and the form; return the table."""
        wanted = slow_rows(width, program)
        diagram = program_diagram(width, program)
        self.assertTrue(is_diagram(diagram))
        count, nodes, edges, scalar = diagram
        self.assertEqual(count, 2 * width)
        self.assertLessEqual(len(nodes), nodes_of(program))
        self.assertLessEqual(len(nodes), 24)
        self.assertLessEqual(len(edges), 60)
        self.assertTrue(scalar is None or -60 <= scalar[0] <= 60)
        self.assertEqual(slow_table(diagram) if slow and len(nodes) < 10 else table(diagram), wanted, (width, program))
        self.assertEqual(program_form(width, program), form(diagram))
        return wanted

    def check_form(self, width, program):
        """The form for a program of any length; return the table."""
        wanted = slow_rows(width, program)
        found = program_form(width, program)
        self.assertEqual(form(found), found)
        self.assertEqual(table(found), wanted, (width, program))
        return wanted


class Blocks(Case):
    def test_program_diagram(self):
        self.assertEqual(table(program_diagram(1, [("phase", 0, 1)])), [((0, 0), (1, 0, 0, 0, 0)), ((1, 1), (0, 0, 1, 0, 0))])

    def test_program_form(self):
        self.assertEqual(program_form(1, ()), (
            2, (("cb", "green", 0), ("pa", "green", 0), ("pb", "green", 0)),
            (("0", "pa", "plain"), ("1", "pb", "plain"), ("cb", "pa", "crossed"), ("cb", "pb", "crossed")), (0, 0)))

    def test_same_program(self):
        self.assertIs(same_program(1, [("cross", 0), ("cross", 0)], []), True)


class Tables(ProgramCase):
    def test_empty_programs(self):
        for width in range(1, 5):
            rows = self.check(width, ())
            self.assertEqual(rows, [(bits + bits, (1, 0, 0, 0, 0)) for bits in all_bits(width)])
            self.assertEqual(program_diagram(width, []), program_diagram(width, ()))

    def test_each_instruction(self):
        for width in range(1, 5):
            for instruction in instructions(width):
                self.check(width, [instruction])

    def test_each_two_instructions(self):
        for width in (1, 2):
            for first in instructions(width):
                for second in instructions(width):
                    self.check(width, (first, second))

    def test_by_hand(self):
        half, minus = (0, 1, 0, -1, 1), (0, -1, 0, 1, 1)
        self.assertEqual(self.check(1, [("cross", 0)]), [((0, 0), half), ((0, 1), half), ((1, 0), half), ((1, 1), minus)])
        one = (1, 0, 0, 0, 0)
        self.assertEqual(self.check(2, [("add", 0, 1)]), [((0, 0, 0, 0), one), ((0, 1, 0, 1), one), ((1, 0, 1, 1), one), ((1, 1, 1, 0), one)])
        self.assertEqual(self.check(2, [("add", 1, 0)]), [((0, 0, 0, 0), one), ((0, 1, 1, 1), one), ((1, 0, 1, 0), one), ((1, 1, 0, 1), one)])
        self.assertEqual(self.check(2, [("swap", 0, 1)]), [((0, 0, 0, 0), one), ((0, 1, 1, 0), one), ((1, 0, 0, 1), one), ((1, 1, 1, 1), one)])
        self.assertEqual(self.check(2, [("link", 0, 1)])[-1], ((1, 1, 1, 1), (-1, 0, 0, 0, 0)))
        # The last instruction acts last: a bit that is added before a cross, and after.
        self.assertNotEqual(self.check(2, [("add", 0, 1), ("cross", 1)]), self.check(2, [("cross", 1), ("add", 0, 1)]))
        self.assertEqual(self.check(3, [("swap", 0, 1), ("swap", 1, 2)])[3], ((0, 1, 1, 1, 1, 0), one))

    def test_drawn_ones(self):
        source = random.Random(1101)
        for at in range(120):
            width = source.randint(1, 4)
            program = draw_program(source, width, source.randint(0, 12), 8)
            self.check(width, tuple(program) if at % 2 else program)

    def test_full_ones(self):
        source = random.Random(1102)
        for at in range(60):
            width = source.randint(1, 4)
            self.check(width, draw_program(source, width, 100, source.choice((22, 23, 24))), slow=False)

    def test_many_of_one_kind(self):
        for width in range(2, 5):
            for word in ("link", "add"):
                program = [(word, at % width, (at + 1) % width) for at in range(12)]
                self.check(width, program, slow=False)
                self.check(width, program + [("cross", 1)] * 88, slow=False)
            self.check(width, [("cross", at % width) for at in range(99)])
            self.check(width, [("swap", at % width, (at + 1) % width) for at in range(100)])
            self.check(width, [("phase", at % width, at % 3 + 1) for at in range(24)], slow=False)


class Forms(ProgramCase):
    def test_long_ones(self):
        source = random.Random(1103)
        for _ in range(40):
            width = source.randint(1, 4)
            self.check_form(width, draw_program(source, width, 100))

    def test_one_hundred_of_one_kind(self):
        for width in range(2, 5):
            for word in ("link", "add", "swap"):
                self.check_form(width, [(word, at % width, (at + 1) % width) for at in range(100)])
            self.check_form(width, [("phase", at % width, 1 + at % 3) for at in range(100)])
            self.check_form(width, [(("cross", at // 2 % width), ("link", 0, 1 + at % (width - 1)))[at % 2] for at in range(100)])

    def test_around_the_number_of_nodes(self):
        source = random.Random(1104)
        for many in range(23, 28):
            for width in (1, 2, 4):
                program = []
                while nodes_of(program) < many:
                    program.append(source.choice(instructions(width)))
                self.check_form(width, program)


class Same(ProgramCase):
    def test_drawn_ones(self):
        source = random.Random(1105)
        seen = {True: 0, False: 0}
        for width in (1, 2):
            found = [draw_program(source, width, source.randint(0, 4)) for _ in range(50)]
            for one in found:
                for other in found:
                    wanted = slow_rows(width, one) == slow_rows(width, other)
                    self.assertIs(same_program(width, one, other), wanted, (width, one, other))
                    seen[wanted] += 1
        self.assertGreater(min(seen.values()), 150)

    def test_identities(self):
        for one, other in (
            ([("cross", 1), ("link", 0, 1), ("cross", 1)], [("add", 0, 1)]), ([("link", 0, 1)], [("link", 1, 0)]),
            ([("add", 0, 1), ("add", 1, 0), ("add", 0, 1)], [("swap", 0, 1)]), ([("phase", 0, 1)] * 4, []),
            ([("swap", 0, 1), ("phase", 0, 3), ("swap", 1, 0)], (("phase", 1, 3),)), ([("phase", 0, 0)], []),
            ([("add", 0, 1), ("phase", 1, 2), ("add", 0, 1)], [("phase", 0, 2), ("phase", 1, 2)]),
        ):
            for width in (2, 3, 4):
                self.assertIs(same_program(width, one, other), True)
                self.assertIs(same_program(width, tuple(other), one), True)
                self.assertIs(same_program(width, one, list(other) + [("phase", 1, 1)]), False)

    def test_programs_that_differ_by_a_factor_only(self):
        turn = [("phase", 0, 1), ("cross", 0)] * 3
        self.assertEqual(slow_rows(1, turn), [((0, 0), (0, 1, 0, 0, 0)), ((1, 1), (0, 1, 0, 0, 0))])
        for width in range(1, 5):
            for many in range(1, 17):
                self.assertIs(same_program(width, turn * many, ()), many % 8 == 0, many)
        sign = [("phase", 0, 2), ("cross", 0)] * 4
        self.assertIs(same_program(1, sign, []), False)
        self.assertIs(same_program(1, sign * 2, []), True)
        self.assertIs(same_program(1, sign, turn * 4), True)

    def test_long_ones(self):
        source = random.Random(1106)
        back = {"phase": lambda word, q, t: (word, q, -t % 4)}
        for _ in range(20):
            width = source.randint(1, 4)
            program = draw_program(source, width, 50)
            inverse = [back.get(item[0], lambda *same: same)(*item) for item in reversed(program)]
            self.assertIs(same_program(width, program + inverse, []), True)
            self.assertIs(same_program(width, program + inverse[:-1] + [("phase", 0, 2)], program[:1] + [("phase", 0, 2)]), True)
            self.assertIs(same_program(width, program, program + [("phase", 0, 1)]), False)


def valid_calls(width, program):
    """The calls of all functions with one program, for both parameters of same_program."""
    return ((program_diagram, width, program), (program_form, width, program), (same_program, width, program, ()),
            (same_program, width, (), program))


class Wrong(Case):
    def bad(self, width, program, index):
        for call in valid_calls(width, program):
            self.fails(BadProgram, index, *call)

    def test_widths(self):
        for width in (0, 5, -1, 10 ** 30, True, False, None, "1", 1.0, (1,), [2], "", {}, object(), b"1"):
            for program in ((), [], None, [("cross", 0)], [("wrong", 0)], [("phase", 0, 1)] * 101, [("link", 0, 1)] * 13):
                for call in valid_calls(width, program):
                    self.fails(BadWidth, None, *call)

    def test_values_that_are_no_program(self):
        for program in ODD_VALUES:
            if not isinstance(program, (tuple, list)):
                self.bad(2, program, 0)
        for program in ("cross", {("cross", 0): 0}, {0: ("cross", 0)}, range(0), frozenset(), iter(()), b""):
            self.bad(2, program, 0)
        self.bad(2, ("cross", 0), 0)
        self.bad(2, ["cross", 0], 0)

    def test_items_that_are_no_instruction(self):
        good = (("cross", 0), ("phase", 1, 3), ("link", 0, 1), ("add", 1, 0), ("swap", 0, 1))
        for wrong in (
            None, 0, "", "cross", (), [], ["cross", 0], ("Cross", 0), ("crossed", 0), ("",), (None, 0), (0, "cross"), ("cross",),
            ("cross", 0, 0), ("cross", 2), ("cross", -1), ("cross", True), ("cross", False), ("cross", "0"), ("cross", None),
            ("cross", 0.0), ("cross", (0,)), ("phase", 0), ("phase", 0, 4), ("phase", 0, -1), ("phase", 0, True), ("phase", 2, 0),
            ("phase", 0, 1, 1), ("phase", 0, "1"), ("phase", None, 1), ("phase", 0, None), ("phase", True, 1), ("link", 0), ("link", 0, 0),
            ("link", 0, 2), ("link", 2, 0), ("link", 0, 1, 0), ("link", 0, True), ("link", False, 1), ("add", 1, 1), ("add", 1),
            ("add", 0, -1), ("add", -1, 0), ("add", 0, 1, 1), ("swap", 0, 0), ("swap", 1), ("swap", 0, 9), ("swap", 0, 1, 0),
            ("swap", "0", 1), (("cross", 0),), {0: "cross"}, ("cross 0",), ("drop", 0), ("swap", [0], 1), (["cross"], 0), b"cross",
            ("phase", 0, 10 ** 40), ("swap",), ("add",), ("link",), ("phase",),
        ):
            for index in range(len(good) + 1):
                program = good[:index] + (wrong,) + good[index:]
                self.bad(2, program, index)
                self.bad(2, list(program) + [None], index)

    def test_wires_of_other_widths(self):
        for width in range(1, 5):
            self.bad(width, [("cross", width - 1), ("cross", width)], 1)
            self.bad(width, [("phase", width, 0)], 0)
            self.bad(width, [("cross", 0), ("cross", 0), ("link", 0, width)], 2)
            self.bad(width, [("add", width, 0)], 0)
        self.bad(1, [("swap", 0, 0)], 0)

    def test_one_hundred_instructions(self):
        program = [("cross", 0)] * 100
        for kind in (tuple, list):
            self.assertEqual(program_form(1, kind(program)), program_form(1, ()))
            self.assertEqual(table(program_diagram(1, kind(program))), slow_rows(1, ()))
            self.assertIs(same_program(1, kind(program), kind(program)), True)
            self.bad(1, kind(program + [("cross", 0)]), 0)
            self.bad(1, kind(program + [None]), 0)
            self.bad(1, kind(program[:50] + [None] + program[51:]), 50)
            self.bad(1, kind(program[:99] + [None]), 99)
            self.bad(1, kind(program[:7] + [None] + program), 0)

    def test_too_large(self):
        for program, cost in (
            ([("phase", 0, 0)] * 24, 24), ([("phase", 0, 1)] * 25, 25), ([("link", 0, 1)] * 12, 24), ([("link", 0, 1)] * 13, 26),
            ([("add", 0, 1)] * 12, 24), ([("add", 1, 0)] * 12 + [("phase", 0, 1)], 25), ([("phase", 0, 1)] * 22 + [("link", 1, 0)], 24),
            ([("phase", 0, 1)] * 23 + [("add", 1, 0)], 25), ([("phase", 0, 1)] * 24 + [("cross", 1), ("swap", 0, 1)] * 38, 24),
            ([("link", 0, 1), ("add", 0, 1)] * 6 + [("phase", 0, 0)], 25), ([("link", 0, 1)] * 100, 200), ([("phase", 1, 0)] * 100, 100),
            ([("cross", 0)] * 40 + [("phase", 0, 1)] * 25, 25), ([("swap", 0, 1)] * 40 + [("add", 0, 1)] * 13, 26),
        ):
            self.assertEqual(nodes_of(program), cost)
            for kind in (tuple, list):
                if cost > 24:
                    self.fails(TooLarge, 24, program_diagram, 2, kind(program))
                else:
                    self.assertEqual(table(program_diagram(2, kind(program))), slow_rows(2, program))
                self.assertEqual(table(program_form(2, kind(program))), slow_rows(2, program))
                self.assertIs(same_program(2, kind(program), kind(program)), True)

    def test_too_large_comes_last(self):
        program = [("link", 0, 1)] * 50
        self.fails(BadProgram, 50, program_diagram, 2, program + [("link", 0, 2)])
        self.fails(BadProgram, 0, program_diagram, 2, program * 2 + [("link", 0, 1)])
        self.fails(BadWidth, None, program_diagram, 5, program)

    def test_the_first_program_comes_first(self):
        self.fails(BadProgram, 1, same_program, 1, [("cross", 0), None], [None])
        self.fails(BadProgram, 0, same_program, 1, None, [("cross", 0), None])
        self.fails(BadProgram, 2, same_program, 1, [("cross", 0)] * 2 + [()], None)

    def test_programs_stay_as_they_are(self):
        program = [("phase", 0, 1), ("add", 0, 1), ("swap", 0, 1)] * 20
        kept = list(program)
        program_form(2, program)
        same_program(2, program, program)
        program_diagram(2, program[:9])
        self.fails(TooLarge, 24, program_diagram, 2, program)
        self.assertEqual(program, kept)


class Known(ProgramCase):
    def test_the_diagram_of_a_wire(self):
        self.assertEqual(slow_table(program_diagram(1, ())), slow_table(made(2, [], ["0 1 plain"])))
        self.assertEqual(len(program_diagram(4, ())[1]), 0)


if __name__ == "__main__":
    unittest.main()
