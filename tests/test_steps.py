"""Each of the eleven steps: point [4], and apply_step."""

import itertools
import random
import unittest

from drawn import (
    EMPTY, PAIR, RED, WORDS, draw_many, draw_mixed, draw_simple, edge_of, made, slow_step, slow_table, steps_at, zero_form,
)

from stepping import Case

from spiderwires.errors import BadDiagram
from spiderwires.steps import apply_step

NOT_STEPS = (
    None, True, 0, 1, "", "clear", "recolor r", b"clear", [], {}, set(), object(), (), ("",), (None,), (0,), (["clear"],),
    (("clear",),), ["clear"], ["recolor", "r"], ("Clear",), ("clear ",), ("clear", "r"), ("clear", None), ("clear", ()),
    ("recolor",), ("recolor", "r", "r"), ("recolor", None), ("recolor", 0), ("recolor", ["r"]), ("recolor", ("r",)),
    ("recolor", "R"), ("recolor", ""), ("recolor", "abcdefghi"), ("recolor", "0"), ("recolor", "r\n"), ("recolor", b"r"),
    ("recolor", "\u00e9"), ("color", "r"), ("recolour", "r"), ("toggle", "r", "r"), ("r", "recolor"), ("drop",),
    ("fuse", "r"), ("fuse", "r", "r", "r"), ("fuse", "r", "0"), ("fuse", "0", "r"), ("fuse", "r", 1), ("cancel", "r"),
    ("drop", "0"), ("drop", "r", "r"), ("evaluate",), ("evaluate", "0"), ("evaluate", "r", "r"), ("complement",),
    ("complement", "0"), ("complement", "r", 1), ("pivot", "r"), ("pivot", "0", "r"), ("pivot", "r", "r", "r"),
    ("rename", "r"), ("rename", "r", "0"), ("rename", "0", "r"), ("rename", "r", "abcdefghi"), ("rename", "r", ""),
    ("unloop", "r"), ("unloop", "r", "Plain"), ("unloop", "r", None), ("unloop", "plain", "r"), ("unloop", "0", "plain"),
    ("unloop", "r", "plain", 0), ("unloop", "r", 0), ("unloop", "r", ["plain"]), ("insert",), ("insert", "0", "r"),
    ("insert", "0", "r", "plain", "n"), ("insert", "0", "r", "plain", "n", 0, 0), ("insert", "r", "0", "plain", "n", 0),
    ("insert", "0", "r", "plain", "n", 2), ("insert", "0", "r", "plain", "n", -1), ("insert", "0", "r", "plain", "n", "0"),
    ("insert", "0", "r", "plain", "n", None), ("insert", "0", "r", "plain", "n", True),
    ("insert", "0", "r", "plain", "n", False), ("insert", "0", "r", "plain", "n", 0.0),
    ("insert", "0", "r", "plain", "1", 0), ("insert", "0", "r", "plain", "", 0), ("insert", "0", "r", "plain", 5, 0),
    ("insert", "0", "r", "even", "n", 0), ("insert", "0", "r", 0, "n", 0), ("insert", 0, "r", "plain", "n", 0),
    ("insert", "0", None, "plain", "n", 0), ("insert", "8", "r", "plain", "n", 0), ("insert", "00", "r", "plain", "n", 0),
    ("insert", "", "r", "plain", "n", 0), ("insert", "0", "R", "plain", "n", 0), ("insert", ["0"], "r", "plain", "n", 0),
    ["insert", "0", "r", "plain", "n", 0],
)


class Blocks(Case):
    def test_recolor(self):
        self.good(RED, ("recolor", "r"), (1, (("r", "green", 2),), (("0", "r", "crossed"),), (0, 0)))

    def test_complement(self):
        diagram = (0, (("a", "green", 1), ("b", "green", 0)), (("a", "b", "crossed"),), (0, 0))
        self.good(diagram, ("complement", "a"), (0, (("b", "green", 3),), (), (0, 1)))

    def test_pivot(self):
        diagram = (0, (("a", "green", 0), ("b", "green", 1)), (("a", "b", "crossed"),), (0, 0))
        self.good(diagram, ("pivot", "a", "b"), (0, (), (), (1, 0)))


class Values(Case):
    def test_what_is_no_step(self):
        for diagram in (EMPTY, RED, PAIR, zero_form(1)):
            for value in NOT_STEPS:
                self.bad(diagram, value)

    def test_the_diagram_comes_first(self):
        for value in (None, 0, (), [], "red", (1, (), (), (0, 0)), list(RED)):
            for step in (("clear",), ("recolor", "r"), None, []):
                with self.assertRaises(BadDiagram):
                    apply_step(value, step)

    def test_nodes_that_do_not_exist(self):
        for step in (
            ("recolor", "q"), ("fuse", "r", "q"), ("fuse", "q", "r"), ("drop", "q"), ("insert", "0", "q", "plain", "n", 0),
            ("insert", "1", "r", "plain", "n", 0), ("insert", "7", "r", "plain", "n", 0), ("insert", "q", "r", "plain", "n", 0),
            ("unloop", "q", "plain"), ("cancel", "r", "q"), ("cancel", "q", "r"), ("evaluate", "q"), ("complement", "q"),
            ("pivot", "q", "r"), ("pivot", "r", "q"), ("rename", "q", "s"), ("pivot", "q", "q"), ("fuse", "q", "q"),
        ):
            self.bad(RED, step)


class Drawn(Case):
    def compare(self, diagrams, seed):
        """Compare all steps at some diagrams with the slow ones; count the valid ones."""
        source = random.Random(seed)
        valid = dict.fromkeys(WORDS, 0)
        for diagram in diagrams:
            before = slow_table(diagram)
            for step in steps_at(diagram, source):
                wanted = slow_step(diagram, step)
                if wanted is None:
                    self.bad(diagram, step)
                    continue
                valid[step[0]] += 1
                self.assertEqual(apply_step(diagram, step), wanted, (diagram, step))
                self.assertEqual(slow_table(wanted), before, (diagram, step))
        return valid

    def test_many_diagrams(self):
        valid = self.compare(draw_many(301, 600, ports=3, nodes=5, edges=8), 302)
        self.assertGreater(min(valid.values()), 20, valid)

    def test_many_wires_between_few_nodes(self):
        source = random.Random(303)
        drawn = [draw_mixed(source, source.randint(0, 2), source.randint(1, 3), source.randint(3, 9)) for _ in range(200)]
        valid = self.compare(drawn, 304)
        self.assertGreater(min(valid[word] for word in ("fuse", "unloop", "cancel", "recolor", "insert")), 100, valid)

    def test_nodes_without_ports(self):
        source = random.Random(305)
        drawn = [draw_simple(source, source.randint(0, 1), 6, source.randint(4, 14)) for _ in range(150)]
        valid = self.compare(drawn, 306)
        self.assertGreater(min(valid["pivot"], valid["complement"]), 200, valid)


class Recolor(Case):
    def test_the_mode_changes_once_for_each_end(self):
        diagram = made(1, ["a green 1", "b red 2"], ["0 a plain", "a a crossed", "a a plain", "a b plain", "a b crossed",
                                                    "b b crossed"])
        wanted = made(1, ["a red 1", "b red 2"], ["0 a crossed", "a a crossed", "a a plain", "a b crossed", "a b plain",
                                                 "b b crossed"])
        self.good(diagram, ("recolor", "a"), wanted)
        self.good(wanted, ("recolor", "a"), diagram)

    def test_the_edges_are_in_order_again(self):
        diagram = made(2, ["a red 0"], ["0 a crossed", "1 a plain", "a a crossed", "a a plain"], None)
        self.good(diagram, ("recolor", "a"), made(2, ["a green 0"], ["0 a plain", "1 a crossed", "a a crossed", "a a plain"],
                                                  None))


class Fuse(Case):
    def test_phases_and_ends(self):
        for phase, other, color in itertools.product(range(4), range(4), ("green", "red")):
            diagram = made(2, [f"a {color} {phase}", f"b {color} {other}", "c red 0"],
                           ["0 a plain", "1 b crossed", "a b plain", "a c plain", "b c crossed", "b c plain"])
            total = (phase + other) % 4
            self.good(diagram, ("fuse", "a", "b"), made(
                2, [f"a {color} {total}", "c red 0"],
                ["0 a plain", "1 a crossed", "a c plain", "a c crossed", "a c plain"]))
            self.good(diagram, ("fuse", "b", "a"), made(
                2, [f"b {color} {total}", "c red 0"],
                ["0 b plain", "1 b crossed", "b c plain", "b c crossed", "b c plain"]))

    def test_other_edges_become_loops_and_loops_move(self):
        for color in ("green", "red"):
            diagram = made(0, [f"a {color} 3", f"b {color} 2"], [
                "a a crossed", "a b plain", "a b plain", "a b crossed", "b b crossed", "b b plain"])
            self.good(diagram, ("fuse", "a", "b"), made(0, [f"a {color} 1"], [
                "a a crossed", "a a plain", "a a crossed", "a a crossed", "a a plain"]))

    def test_conditions(self):
        self.bad(made(0, ["a green 0", "b red 0"], ["a b plain"]), ("fuse", "a", "b"))
        self.bad(made(0, ["a green 0", "b red 0"], ["a b crossed"]), ("fuse", "a", "b"))
        self.bad(made(0, ["a red 0", "b red 0"], ["a b crossed"]), ("fuse", "a", "b"))
        self.bad(made(0, ["a green 0", "b green 0"], ["a b crossed", "a b crossed"]), ("fuse", "a", "b"))
        self.bad(made(0, ["a green 0", "b green 0"], ["a a plain", "b b plain"]), ("fuse", "a", "b"))
        self.bad(made(0, ["a green 0"], ["a a plain"]), ("fuse", "a", "a"))


class Drop(Case):
    def test_parities_add_up(self):
        for color, one, other in itertools.product(("green", "red"), ("crossed", "plain"), ("crossed", "plain")):
            ends = (one == "crossed") + (other == "crossed") + 2 * (color == "red")
            mode = "crossed" if ends % 2 else "plain"
            diagram = made(2, [f"a {color} 0"], [f"0 a {one}", f"1 a {other}"], (3, 5))
            self.good(diagram, ("drop", "a"), made(2, [], [f"0 1 {mode}"], (3, 5)))

    def test_the_mode_depends_on_the_colors_of_the_far_ends(self):
        colors = ("green", "red")
        for a, b, c, one, other in itertools.product(colors, colors, colors, (0, 1), (0, 1)):
            names = {"a": a, "b": b, "c": c}
            edges = (edge_of(names, "a", "b", one), edge_of(names, "b", "c", other))
            diagram = (0, (("a", a, 1), ("b", b, 0), ("c", c, 2)), tuple(sorted(edges)), (0, 0))
            wanted = (0, (("a", a, 1), ("c", c, 2)), (edge_of(names, "a", "c", (one + other) % 2),), (0, 0))
            self.good(diagram, ("drop", "b"), wanted)

    def test_two_edges_to_one_node_become_a_loop(self):
        for color in ("green", "red"):
            self.good(made(0, ["a green 0", f"b {color} 1"], ["a b plain", "a b crossed"]), ("drop", "a"),
                      made(0, [f"b {color} 1"], ["b b crossed"]))
            self.good(made(0, ["a green 0", f"b {color} 1"], ["a b plain", "a b plain"]), ("drop", "a"),
                      made(0, [f"b {color} 1"], ["b b plain"]))

    def test_conditions(self):
        for phase in (1, 2, 3):
            self.bad(made(2, [f"a green {phase}"], ["0 a plain", "1 a plain"]), ("drop", "a"))
        self.bad(made(1, ["a green 0"], ["0 a plain"]), ("drop", "a"))
        self.bad(made(3, ["a green 0"], ["0 a plain", "1 a plain", "2 a plain"]), ("drop", "a"))
        self.bad(made(0, ["a green 0"], []), ("drop", "a"))
        self.bad(made(0, ["a green 0"], ["a a plain"]), ("drop", "a"))
        self.bad(made(1, ["a green 0"], ["0 a plain", "a a plain"]), ("drop", "a"))
        self.bad(made(0, ["a green 0", "b green 0"], ["a b plain", "a b plain", "a b plain"]), ("drop", "a"))
        self.bad(made(0, ["a green 0"], ["a a plain", "a a crossed"]), ("drop", "a"))


class Insert(Case):
    def test_both_parities_add_up(self):
        wire = {mode: (2, (), (("0", "1", mode),), (0, 0)) for mode in ("plain", "crossed")}
        for mode, parity, one, other in (
            ("plain", 0, "plain", "plain"), ("plain", 1, "crossed", "crossed"),
            ("crossed", 0, "plain", "crossed"), ("crossed", 1, "crossed", "plain"),
        ):
            self.good(wire[mode], ("insert", "0", "1", mode, "n", parity),
                      made(2, ["n green 0"], [f"0 n {one}", f"1 n {other}"]))

    def test_at_red_nodes(self):
        diagram = made(1, ["b red 1", "c red 2"], ["0 b plain", "b c crossed", "b c plain"])
        self.good(diagram, ("insert", "0", "b", "plain", "a", 0),
                  made(1, ["a green 0", "b red 1", "c red 2"], ["0 a plain", "a b plain", "b c crossed", "b c plain"]))
        self.good(diagram, ("insert", "b", "c", "crossed", "d", 1),
                  made(1, ["b red 1", "c red 2", "d green 0"], ["0 b plain", "b c plain", "b d plain", "c d crossed"]))
        self.good(diagram, ("insert", "b", "c", "plain", "d", 1),
                  made(1, ["b red 1", "c red 2", "d green 0"], ["0 b plain", "b c crossed", "b d plain", "c d plain"]))

    def test_on_a_loop_and_one_of_equal_edges(self):
        diagram = made(0, ["b green 1"], ["b b crossed", "b b crossed", "b b plain"])
        for parity in (0, 1):
            self.good(diagram, ("insert", "b", "b", "crossed", "a", parity),
                      made(0, ["a green 0", "b green 1"], ["a b crossed", "a b plain", "b b crossed", "b b plain"]))
        self.good(diagram, ("insert", "b", "b", "plain", "c", 1),
                  made(0, ["b green 1", "c green 0"], ["b c crossed", "b c crossed", "b b crossed", "b b crossed"]))

    def test_conditions(self):
        diagram = made(2, ["a green 0", "b green 0"], ["0 a plain", "1 b crossed", "a b plain"])
        for u, v, mode, name in (
            ("0", "a", "crossed", "n"), ("0", "b", "plain", "n"), ("0", "1", "plain", "n"), ("a", "b", "crossed", "n"),
            ("a", "a", "plain", "n"), ("2", "a", "plain", "n"), ("0", "a", "plain", "a"), ("0", "a", "plain", "b"),
            ("a", "b", "plain", "b"),
        ):
            for parity in (0, 1):
                self.bad(diagram, ("insert", u, v, mode, name, parity))


class Unloop(Case):
    def test_plain_and_crossed(self):
        for color, phase in itertools.product(("green", "red"), range(4)):
            diagram = made(1, [f"a {color} {phase}"], ["0 a plain", "a a crossed", "a a crossed", "a a plain", "a a plain"],
                           (4, 3))
            self.good(diagram, ("unloop", "a", "plain"),
                      made(1, [f"a {color} {phase}"], ["0 a plain", "a a crossed", "a a crossed", "a a plain"], (4, 3)))
            self.good(diagram, ("unloop", "a", "crossed"),
                      made(1, [f"a {color} {(phase + 2) % 4}"], ["0 a plain", "a a crossed", "a a plain", "a a plain"],
                           (3, 3)))

    def test_conditions(self):
        self.bad(made(0, ["a green 0"], ["a a plain"]), ("unloop", "a", "crossed"))
        self.bad(made(0, ["a red 0"], ["a a crossed"]), ("unloop", "a", "plain"))
        self.bad(made(0, ["a red 0"], []), ("unloop", "a", "plain"))
        self.bad(made(0, ["a red 0", "b red 0"], ["a a plain", "a b crossed"]), ("unloop", "b", "plain"))


class Cancel(Case):
    def test_two_odd_edges_go(self):
        for colors, odd, even in (("green green", "crossed", "plain"), ("red red", "crossed", "plain"),
                                  ("green red", "plain", "crossed"), ("red green", "plain", "crossed")):
            one, other = colors.split()
            nodes = [f"a {one} 1", f"b {other} 2"]
            for left in (0, 1, 2):
                diagram = made(0, nodes, [f"a b {odd}"] * (left + 2) + [f"a b {even}"], (1, 4))
                wanted = made(0, nodes, [f"a b {odd}"] * left + [f"a b {even}"], (-1, 4))
                self.good(diagram, ("cancel", "a", "b"), wanted)
                self.good(diagram, ("cancel", "b", "a"), wanted)
            self.bad(made(0, nodes, [f"a b {odd}"] + [f"a b {even}"] * 3), ("cancel", "a", "b"))
            self.bad(made(0, nodes, [f"a b {even}"] * 2), ("cancel", "b", "a"))

    def test_conditions(self):
        self.bad(made(0, ["a green 0"], ["a a crossed", "a a crossed"]), ("cancel", "a", "a"))
        self.bad(made(0, ["a green 0", "b green 0"], ["a a crossed", "b b crossed"]), ("cancel", "a", "b"))


class Evaluate(Case):
    def test_each_phase(self):
        for color in ("green", "red"):
            for phase, scalar in ((0, (7, 7)), (1, (6, 0)), (2, None), (3, (6, 6))):
                self.good(made(2, [f"a {color} {phase}"], ["0 1 plain"], (5, 7)), ("evaluate", "a"),
                          made(2, [], ["0 1 plain"], scalar))
                self.good(made(0, [f"a {color} {phase}"], [], None), ("evaluate", "a"), made(0, [], [], None))

    def test_conditions(self):
        self.bad(made(1, ["a green 0"], ["0 a plain"]), ("evaluate", "a"))
        self.bad(made(0, ["a green 0"], ["a a plain"]), ("evaluate", "a"))
        self.bad(made(0, ["a green 0", "b green 0"], ["a b plain"]), ("evaluate", "b"))


class Rename(Case):
    def test_names_and_order(self):
        diagram = made(1, ["a red 3", "b green 1"], ["0 a plain", "a a crossed", "a a crossed", "a b plain", "a b crossed"])
        for name in ("c", "zzzzzzzz", "aa"):
            self.good(diagram, ("rename", "a", name), made(1, [f"{name} red 3", "b green 1"], [
                f"0 {name} plain", f"{name} {name} crossed", f"{name} {name} crossed",
                *((f"aa b {mode}" if name == "aa" else f"b {name} {mode}") for mode in ("plain", "crossed"))]))

    def test_conditions(self):
        for name in ("a", "b"):
            self.bad(made(0, ["a red 3", "b green 1"], ["a b plain"]), ("rename", "a", name))


class Clear(Case):
    def test_any_number_of_ports(self):
        for diagram in draw_many(307, 60, ports=8, nodes=9, edges=20):
            self.good(diagram[:3] + (None,), ("clear",), zero_form(diagram[0]))
        self.good((2, (), (("0", "1", "crossed"),), None), ("clear",), zero_form(2))
        self.good(made(1, ["pa red 2", "pb green 0"], ["0 pb plain"], None), ("clear",), zero_form(1))

    def test_the_zero_form(self):
        for count in range(9):
            self.good(zero_form(count), ("clear",), zero_form(count))

    def test_conditions(self):
        for diagram in (EMPTY, RED, PAIR, made(0, ["a green 2"], []), zero_form(2)[:3] + ((0, 0),)):
            self.bad(diagram, ("clear",))


if __name__ == "__main__":
    unittest.main()
