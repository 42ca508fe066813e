"""The two steps that connect neighbors, complement and pivot, and steps at the bounds of a diagram: point [4]."""

import itertools
import unittest

from drawn import made, slow_step, zero_form
from stepping import Case

COLORS = ("green", "red")


def odd(nodes, pairs):
    """Odd edges between nodes "name color phase"."""
    red = [node.split()[0] for node in nodes if node.split()[1] == "red"]
    return [f"{u} {v} {'plain' if (u in red) != (v in red) else 'crossed'}" for u, v in (pair.split() for pair in pairs)]


def even(nodes, pairs):
    other = {"plain": "crossed", "crossed": "plain"}
    return [f"{u} {v} {other[mode]}" for u, v, mode in (edge.split() for edge in odd(nodes, pairs))]


def turned(nodes, by):
    """Nodes with these numbers added to their phases."""
    found = []
    for name, color, phase in (node.split() for node in nodes):
        found.append(f"{name} {color} {(int(phase) + by.get(name, 0)) % 4}")
    return found


class Complement(Case):
    def test_neighbors_are_connected(self):
        for many, t, color in itertools.product(range(6), (1, 3), COLORS):
            far = [f"{name} {COLORS[at % 2]} {at % 4}" for at, name in enumerate("bcdef"[:many])]
            nodes = [f"a {color} {t}"] + far
            diagram = made(0, nodes, odd(nodes, [f"a {name}" for name in "bcdef"[:many]]), (9, 7))
            pairs = [f"{u} {v}" for u, v in itertools.combinations("bcdef"[:many], 2)]
            by = dict.fromkeys("bcdef", -t)
            scalar = (9 + 1 - many + len(pairs), 0 if t == 1 else 6)
            self.good(diagram, ("complement", "a"), made(0, turned(far, by), odd(far, pairs), scalar))

    def test_edges_between_neighbors_are_toggled(self):
        far = ["b green 0", "c red 1", "d green 3"]
        for t in (1, 3):
            nodes = [f"a green {t}"] + far
            star = odd(nodes, ["a b", "a c", "a d"])
            by = dict.fromkeys("bcd", -t)
            for copies in range(4):
                before = star + odd(far, ["b d"] * copies) + even(far, ["b d", "c d"]) + ["b b crossed", "0 b plain"]
                left = copies - 1 if copies else 1
                after = odd(far, ["b d"] * left + ["b c", "c d"]) + even(far, ["b d", "c d"]) + ["b b crossed", "0 b plain"]
                scalar = (1 - 3 + 2 + (left - copies), 1 if t == 1 else 7)
                self.good(made(1, nodes, before), ("complement", "a"), made(1, turned(far, by), after, scalar))

    def test_the_scalar_none(self):
        nodes = ["a green 1", "b green 1"]
        self.good(made(0, nodes, ["a b crossed"], None), ("complement", "a"), made(0, ["b green 0"], [], None))

    def test_conditions(self):
        nodes = ["b green 0", "c red 0"]
        for phase in range(4):
            all_nodes = [f"a green {phase}"] + nodes
            star = odd(all_nodes, ["a b", "a c"])
            step = ("complement", "a")
            if phase % 2 == 0:
                self.bad(made(0, all_nodes, star), step)
                continue
            self.assertIsNotNone(slow_step(made(0, all_nodes, star), step))
            for wrong in (["a a plain"], ["a a crossed"], ["0 a plain"], ["0 a crossed"], even(all_nodes, ["a b"]),
                          even(all_nodes, ["a c"]), odd(all_nodes, ["a b"]), odd(all_nodes, ["a c"])):
                self.bad(made(int(wrong[0][0] == "0"), all_nodes, star + wrong), step)
            self.bad(made(0, all_nodes, odd(all_nodes, ["a b"]) + even(all_nodes, ["a c"])), step)
        self.bad(made(0, ["a green 0"], []), ("complement", "a"))
        self.bad(made(0, ["a green 2"], []), ("complement", "a"))
        self.bad(made(1, ["a red 1"], ["0 a plain"]), ("complement", "a"))
        self.bad(made(0, ["a red 1"], ["a a crossed"]), ("complement", "a"))


class Pivot(Case):
    def test_each_pair_of_phases(self):
        # A is a and c, B is b and c.
        far = ["a green 1", "b red 2", "c green 0"]
        for s, t, y_color, z_color in itertools.product((0, 2), range(4), COLORS, COLORS):
            nodes = [f"y {y_color} {s}", f"z {z_color} {t}"] + far
            diagram = made(0, nodes, odd(nodes, ["y z", "a y", "c y", "b z", "c z"]), (2, 3))
            turn = -t if s == 2 and t % 2 else t
            by = {"a": turn, "b": s, "c": 2 + s + turn}
            pairs = ["a b", "b c"] if t % 2 else ["a b", "b c", "a c"]
            wanted = made(0, turned(far, by), odd(far, pairs), (2 + len(pairs) - 3, (3 + s * t) % 8))
            self.good(diagram, ("pivot", "y", "z"), wanted)

    def test_the_first_node_decides_about_the_phase(self):
        nodes = ["y green 0", "z green 1", "a green 0", "b green 0"]
        diagram = made(0, nodes, odd(nodes, ["y z", "a y", "b z"]))
        self.bad(diagram, ("pivot", "z", "y"))
        self.good(diagram, ("pivot", "y", "z"), made(0, ["a green 1", "b green 0"], ["a b crossed"], (0, 0)))
        nodes = ["y green 0", "z green 2", "a green 0", "b green 0"]
        diagram = made(0, nodes, odd(nodes, ["y z", "a y", "b z"]))
        self.good(diagram, ("pivot", "y", "z"), made(0, ["a green 2", "b green 0"], ["a b crossed"], (0, 0)))
        self.good(diagram, ("pivot", "z", "y"), made(0, ["a green 2", "b green 0"], ["a b crossed"], (0, 0)))

    def test_pairs_in_both_sets_are_toggled_twice(self):
        far = ["c green 0", "d red 1"]
        for s, t, copies in itertools.product((0, 2), range(4), range(5)):
            nodes = [f"y green {s}", f"z green {t}"] + far
            diagram = made(0, nodes, odd(nodes, ["y z", "c y", "c z", "d y", "d z"] + ["c d"] * copies))
            left = copies
            for _ in range(3 if t % 2 else 2):
                left = left - 1 if left else 1
            turn = 2 + s + (-t if s == 2 and t % 2 else t)
            wanted = made(0, turned(far, {"c": turn, "d": turn}), odd(far, ["c d"] * left), (left - copies - 3, s * t % 8))
            self.good(diagram, ("pivot", "y", "z"), wanted)

    def test_other_edges_stay(self):
        far = ["a green 0", "b red 3"]
        nodes = ["y red 2", "z green 3"] + far
        others = even(far, ["a b"]) + ["a a crossed", "0 a plain", "1 b crossed"]
        for copies in (0, 1, 2):
            diagram = made(2, nodes, odd(nodes, ["y z", "a y", "b z"] + ["a b"] * copies) + others)
            left = copies - 1 if copies else 1
            self.good(diagram, ("pivot", "y", "z"), made(
                2, turned(far, {"a": -3, "b": 2}), odd(far, ["a b"] * left) + others, (left - copies - 1, 6)))

    def test_without_neighbors(self):
        for s, t in itertools.product((0, 2), range(4)):
            nodes = [f"y green {s}", f"z red {t}"]
            self.good(made(0, nodes, ["y z plain"]), ("pivot", "y", "z"), made(0, [], [], (1, s * t % 8)))
            self.good(made(0, nodes, ["y z plain"], None), ("pivot", "y", "z"), made(0, [], [], None))

    def test_conditions(self):
        far = ["a green 1", "b red 2", "c green 0"]
        for s, t in itertools.product(range(4), range(4)):
            nodes = [f"y green {s}", f"z red {t}"] + far
            right = odd(nodes, ["y z", "a y", "c y", "b z", "c z"])
            step = ("pivot", "y", "z")
            if s % 2:
                self.bad(made(0, nodes, right), step)
                continue
            self.assertIsNotNone(slow_step(made(0, nodes, right), step))
            self.bad(made(0, nodes, right), ("pivot", "y", "y"))
            self.bad(made(0, nodes, right[1:]), step)
            for pair in ("y z", "a y", "c y", "b z", "c z"):
                self.bad(made(0, nodes, right + odd(nodes, [pair])), step)
                self.bad(made(0, nodes, right + even(nodes, [pair])), step)
                self.bad(made(0, nodes, [edge for edge in right if edge[:3] != pair] + even(nodes, [pair])), step)
            for wrong in ("y y plain", "y y crossed", "z z plain", "z z crossed"):
                self.bad(made(0, nodes, right + [wrong]), step)
            for wrong in ("0 y plain", "0 y crossed", "0 z plain", "0 z crossed"):
                self.bad(made(1, nodes, right + [wrong]), step)


def many_nodes(many):
    return [f"{one}{other} green 0" for one in "qrstuvwx" for other in "abcdefghijkl"][:many]


class NodesAndEdges(Case):
    def test_nodes(self):
        for many in (78, 79, 80):
            diagram = made(2, many_nodes(many), ["0 1 plain"])
            step = ("insert", "0", "1", "plain", "a", 0)
            if many < 80:
                self.good(diagram, step, made(2, many_nodes(many) + ["a green 0"], ["0 a plain", "1 a plain"]))
            else:
                self.bad(diagram, step)
            self.good(diagram, ("rename", "qa", "qaa"),
                      made(2, many_nodes(many)[1:] + ["qaa green 0"], ["0 1 plain"]))

    def test_edges(self):
        for many in (1498, 1499, 1500):
            diagram = made(0, ["b green 0"], ["b b crossed"] * many)
            step = ("insert", "b", "b", "crossed", "a", 0)
            if many < 1500:
                self.good(diagram, step, made(0, ["a green 0", "b green 0"], [
                    "a b crossed", "a b plain"] + ["b b crossed"] * (many - 1)))
            else:
                self.bad(diagram, step)
            self.good(diagram, ("unloop", "b", "crossed"), made(0, ["b green 2"], ["b b crossed"] * (many - 1), (-1, 0)))

    def test_edges_of_a_complement(self):
        far = many_nodes(40)
        names = [node.split()[0] for node in far]
        star = [f"a {name} crossed" for name in names]
        pairs = [f"{u} {v} crossed" for u, v in itertools.combinations(names, 2)]
        after = turned(far, dict.fromkeys(names, 3))
        for loops in (719, 720, 721, 760):
            others = [f"{names[0]} {names[0]} plain"] * loops
            diagram = made(0, ["a green 1"] + far, star + others)
            if loops <= 720:
                self.good(diagram, ("complement", "a"), made(0, after, pairs + others, (1 - 40 + 780, 1)))
            else:
                self.bad(diagram, ("complement", "a"))

    def test_edges_within_a_pivot(self):
        far = many_nodes(30)
        names = [node.split()[0] for node in far]
        nodes = ["y green 0", "z green 1"] + far
        # The edges between the first half and the second one come and go.
        star = ["y z crossed"] + [f"{name} y crossed" for name in names] + [f"{name} z crossed" for name in names[15:]]
        pairs = [f"{u} {v} crossed" for half in (names[:15], names[15:]) for u, v in itertools.combinations(half, 2)]
        by = {name: 1 if name in names[:15] else 3 for name in names}
        for loops in (1290, 1291):
            others = [f"{names[0]} {names[0]} plain"] * loops
            diagram = made(0, nodes, star + others)
            if loops == 1290:
                wanted = made(0, turned(far, by), pairs + others, (210 + 1 - 45, 0))
                self.assertEqual(len(wanted[2]), 1500)
                self.good(diagram, ("pivot", "y", "z"), wanted)
            else:
                self.bad(diagram, ("pivot", "y", "z"))


class Powers(Case):
    def check(self, nodes, edges, step, by):
        """A step adds by to k, and it is valid only as far as the result is within the bounds."""
        for k in (-2000, -1999, -1998, 0, 1998, 1999, 2000):
            diagram = made(0, nodes, edges, (k, 2))
            if -2000 <= k + by <= 2000:
                wanted = slow_step(diagram, step)
                self.assertEqual(wanted[3][0], k + by)
                self.good(diagram, step, wanted)
            else:
                self.bad(diagram, step)
        diagram = made(0, nodes, edges, None)
        self.good(diagram, step, slow_step(diagram, step))

    def test_evaluate(self):
        for phase, by in ((0, 2), (1, 1), (3, 1)):
            self.check([f"a green {phase}"], [], ("evaluate", "a"), by)
        for k in (-2000, 2000):
            self.good(made(0, ["a red 2"], [], (k, 0)), ("evaluate", "a"), made(0, [], [], None))

    def test_unloop(self):
        self.check(["a green 0"], ["a a crossed"], ("unloop", "a", "crossed"), -1)
        self.check(["a green 0"], ["a a plain"], ("unloop", "a", "plain"), 0)

    def test_cancel(self):
        self.check(["a green 0", "b red 1"], ["a b plain"] * 3, ("cancel", "a", "b"), -2)

    def test_complement(self):
        nodes = ["a green 1", "b green 0", "c green 0", "d green 0"]
        star = ["a b crossed", "a c crossed", "a d crossed"]
        self.check(nodes, [], ("complement", "a"), 1)
        self.check(nodes, star[:1], ("complement", "a"), 0)
        # One part of the change goes beyond the bound and the other part comes back.
        self.check(nodes, star[:2], ("complement", "a"), 0)
        self.check(nodes, star, ("complement", "a"), 1)
        self.check(nodes, star[:2] + ["b c crossed"], ("complement", "a"), -2)
        self.check(nodes, star + ["b c crossed"] * 2, ("complement", "a"), -1)

    def test_pivot(self):
        nodes = ["a green 0", "b green 0", "y green 2", "z green 1"]
        edges = ["y z crossed", "a y crossed", "b z crossed"]
        self.check(nodes, edges[:1], ("pivot", "y", "z"), 1)
        self.check(nodes, edges[:2], ("pivot", "y", "z"), 0)
        self.check(nodes, edges, ("pivot", "y", "z"), 0)
        self.check(nodes, edges + ["a b crossed"], ("pivot", "y", "z"), -2)

    def test_steps_that_do_not_change_k(self):
        self.check(["a green 0", "b green 1"], ["a b plain"], ("fuse", "a", "b"), 0)
        self.check(["a green 0", "b green 1"], ["a b plain", "a b crossed"], ("drop", "a"), 0)
        self.check(["a green 0"], ["a a plain"], ("insert", "a", "a", "plain", "b", 1), 0)
        self.check(["a green 0"], ["a a plain"], ("recolor", "a"), 0)
        self.check(["a green 0"], ["a a plain"], ("rename", "a", "b"), 0)

    def test_clear_at_all_bounds(self):
        nodes = many_nodes(80)
        edges = [f"{port} {nodes[0].split()[0]} plain" for port in range(8)] + ["qa qa crossed"] * 1492
        self.good(made(8, nodes, edges, None), ("clear",), zero_form(8))


if __name__ == "__main__":
    unittest.main()
