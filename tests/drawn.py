"""What the tests share: drawn diagrams, and slow answers that follow the words of the document.

Nothing here uses the program.
"""

import random
import re
from itertools import combinations

WORDS = ("recolor", "fuse", "drop", "insert", "unloop", "cancel", "evaluate", "complement", "pivot", "rename", "clear")
ZERO = (0, 0, 0, 0, 0)
NAME = "[a-z]{1,8}"
END = "[0-7]|[a-z]{1,8}"
MODE = "crossed|plain"
ITEMS = {
    "recolor": (NAME,), "fuse": (NAME, NAME), "drop": (NAME,), "insert": (END, END, MODE, NAME, None),
    "unloop": (NAME, MODE), "cancel": (NAME, NAME), "evaluate": (NAME,), "complement": (NAME,),
    "pivot": (NAME, NAME), "rename": (NAME, NAME), "clear": (),
}
# Some are names of nodes of forms.
NAMES = ("pa", "ca", "cb", "pb", "pc", "cc", "xaa", "xab", "xba", "a", "b", "c", "zzzzzzzz", "ph", "ch", "pi", "n",
         "na", "nb", "nc", "nd", "ne", "nf", "ng", "nh", "ni", "nj", "nk", "nl", "nm")

RED = (1, (("r", "red", 2),), (("0", "r", "plain"),), (0, 0))
PAIR = (2, (("a", "green", 1),), (("0", "a", "plain"), ("1", "a", "plain")), (0, 0))
EMPTY = (0, (), (), (0, 0))


# Numbers.

def lowest(items, k):
    """The number with these coefficients over 2 ** k, for k of either sign."""
    if k < 0:
        items, k = [item * 2 ** -k for item in items], 0
    while k > 0 and all(item % 2 == 0 for item in items):
        items, k = [item // 2 for item in items], k - 1
    return (*items, k) if any(items) else ZERO


def turned(items):
    """Four coefficients times w."""
    a, b, c, d = items
    return [-d, a, b, c]


def scaled(items, k, j):
    """The number sqrt(2) ** k * w ** j times four coefficients."""
    for _ in range(j % 8):
        items = turned(items)
    if k % 2:
        once, thrice = turned(items), turned(turned(turned(items)))
        items = [x - y for x, y in zip(once, thrice)]
    return lowest(items, -(k // 2))


def plus(x, y):
    """The sum of two numbers."""
    k = max(x[4], y[4])
    return lowest([a * 2 ** (k - x[4]) + b * 2 ** (k - y[4]) for a, b in zip(x[:4], y[:4])], k)


def times(x, y):
    """The product of two numbers."""
    items, power = [0, 0, 0, 0], list(y[:4])
    for a in x[:4]:
        items = [item + a * b for item, b in zip(items, power)]
        power = turned(power)
    return lowest(items, x[4] + y[4])


def bar(x):
    """The complex conjugate: w ** n becomes w ** -n, which is w ** 7 taken n times."""
    total, power = ZERO, [1, 0, 0, 0]
    for a in x[:4]:
        total = plus(total, lowest([a * item for item in power], x[4]))
        for _ in range(7):
            power = turned(power)
    return total


# Diagrams and their tables.

def parity(diagram, edge):
    """The number of ends at red nodes, plus 1 if crossed, modulo 2."""
    reds = [name for name, color, _ in diagram[1] if color == "red"]
    u, v, mode = edge
    return ((u in reds) + (v in reds) + (mode == "crossed")) % 2


def edge_of(colors, u, v, parity_wanted):
    """The edge of this parity between u and v, for the colors of the nodes."""
    u, v = min(u, v), max(u, v)
    plain = ((colors.get(u) == "red") + (colors.get(v) == "red")) % 2
    return (u, v, "plain" if plain == parity_wanted else "crossed")


def made(count, nodes, edges, scalar=(0, 0)):
    """A diagram from nodes "name color phase" and edges "u v mode", in any order."""
    words = [node.split() for node in nodes]
    return (
        count, tuple(sorted((name, color, int(phase)) for name, color, phase in words)),
        tuple(sorted(tuple(edge.split()) for edge in edges)), scalar,
    )


def ports_of(diagram):
    return [str(port) for port in range(diagram[0])]


def all_bits(count):
    return [tuple(int(letter) for letter in f"{row:0{count}b}") if count else () for row in range(2 ** count)]


def planes(many):
    """For each of many bits, an integer whose digit x is this bit of x; and the integer of all ones."""
    found = []
    for at in range(many):
        pattern = 2 ** 2 ** at - 1 << 2 ** at
        for later in range(at + 1, many):
            pattern |= pattern << 2 ** later
        found.append(pattern)
    return found, 2 ** 2 ** many - 1


def weigh(diagram, bits_of, ones):
    """The choices of weight i ** e / sqrt(2) ** (number of odd edges), for each e, as integers of digits."""
    alive, low, high = ones, 0, 0
    for name, _, phase in diagram[1]:
        for _ in range(phase):
            low, high = low ^ bits_of[name], high ^ (low & bits_of[name])
    for u, v, mode in diagram[2]:
        if parity(diagram, (u, v, mode)):
            high ^= bits_of[u] & bits_of[v]
        else:
            alive &= ones ^ bits_of[u] ^ bits_of[v]
    return [alive & (low if e % 2 else ones ^ low) & (high if e // 2 else ones ^ high) for e in range(4)]


def entry_of(diagram, counts):
    """The entry where this many choices have the weight i ** e, for each e."""
    if diagram[3] is None:
        return ZERO
    odd = sum(parity(diagram, edge) for edge in diagram[2])
    k, j = diagram[3]
    return scaled([counts[0] - counts[2], 0, counts[1] - counts[3], 0], k - odd, j)


def slow_entry(diagram, bits):
    """The entry by its definition, the sum over all bits of the nodes."""
    patterns, ones = planes(len(diagram[1]))
    bits_of = {name: pattern for (name, _, _), pattern in zip(diagram[1], patterns)}
    bits_of.update((port, ones * bit) for port, bit in zip(ports_of(diagram), bits))
    return entry_of(diagram, [choices.bit_count() for choices in weigh(diagram, bits_of, ones)])


def slow_table(diagram):
    """The list of all (bits, entry) with a nonzero entry, by the definition, in ascending order."""
    names = [name for name, _, _ in diagram[1]]
    patterns, ones = planes(len(names) + diagram[0])
    found = weigh(diagram, dict(zip(names + ports_of(diagram)[::-1], patterns)), ones)
    row_ones = 2 ** 2 ** len(names) - 1
    rows = []
    for row, bits in enumerate(all_bits(diagram[0])):
        counts = [(choices >> row * 2 ** len(names) & row_ones).bit_count() for choices in found]
        rows.append((bits, entry_of(diagram, counts)))
    return [(bits, number) for bits, number in rows if number != ZERO]


# Steps.

def well_formed(step):
    """Tell whether any value is a well-formed step."""
    if type(step) is not tuple or not step or type(step[0]) is not str or step[0] not in ITEMS:
        return False
    if len(step) - 1 != len(ITEMS[step[0]]):
        return False
    for item, pattern in zip(step[1:], ITEMS[step[0]]):
        if pattern is None:
            if type(item) is not int or item not in (0, 1):
                return False
        elif type(item) is not str or not re.fullmatch(pattern, item):
            return False
    return step[0] != "insert" or step[1] <= step[2]


class Sheet:
    """A diagram to write on, with modes as in the document."""

    def __init__(self, diagram):
        self.count, nodes, edges, self.scalar = diagram
        self.colors = {name: color for name, color, _ in nodes}
        self.phases = {name: phase for name, _, phase in nodes}
        self.edges = list(edges)

    def diagram(self):
        """The diagram, or None if it is not within the bounds."""
        nodes = tuple(sorted((name, self.colors[name], phase % 4) for name, phase in self.phases.items()))
        edges = tuple(sorted((min(u, v), max(u, v), mode) for u, v, mode in self.edges))
        if len(nodes) > 80 or len(edges) > 1500 or (self.scalar and not -2000 <= self.scalar[0] <= 2000):
            return None
        return (self.count, nodes, edges, self.scalar)

    def parity(self, edge):
        return sum(self.colors.get(end) == "red" for end in edge[:2]) % 2 ^ (edge[2] == "crossed")

    def at(self, node):
        """The edges at a node, loops twice, each with its far end and its parity."""
        found = []
        for edge in self.edges:
            for end, far in (edge[:2], edge[1::-1]):
                if end == node:
                    found.append((edge, far, self.parity(edge)))
        return found

    def between(self, one, other):
        return [edge for edge in self.edges if sorted(edge[:2]) == sorted((one, other))]

    def odd(self, one, other):
        return [edge for edge in self.between(one, other) if self.parity(edge)]

    def add(self, k, j=0):
        if self.scalar is not None:
            self.scalar = (self.scalar[0] + k, (self.scalar[1] + j) % 8)

    def connect(self, one, other, wanted):
        self.edges.append(edge_of(self.colors, one, other, wanted))

    def remove(self, node):
        del self.colors[node], self.phases[node]
        self.edges = [edge for edge in self.edges if node not in edge[:2]]

    def toggle(self, one, other):
        found = self.odd(one, other)
        if found:
            self.edges.remove(found[0])
            self.add(-1)
        else:
            self.connect(one, other, 1)
            self.add(1)

    def recolor(self, node):
        other_mode = {"plain": "crossed", "crossed": "plain"}
        self.colors[node] = {"green": "red", "red": "green"}[self.colors[node]]
        self.edges = [(u, v, other_mode[mode] if (u == node) != (v == node) else mode) for u, v, mode in self.edges]
        return True

    def fuse(self, node, other):
        edge = (min(node, other), max(node, other), "plain")
        if node == other or self.colors[node] != self.colors[other] or edge not in self.edges:
            return False
        self.edges.remove(edge)
        self.phases[node] += self.phases[other]
        self.edges = [
            (node if u == other else u, node if v == other else v, mode) for u, v, mode in self.edges
        ]
        del self.colors[other], self.phases[other]
        return True

    def drop(self, node):
        found = self.at(node)
        if self.phases[node] or len(found) != 2 or self.between(node, node):
            return False
        self.remove(node)
        self.connect(found[0][1], found[1][1], (found[0][2] + found[1][2]) % 2)
        return True

    def insert(self, u, v, mode, name, wanted):
        if (u, v, mode) not in self.edges or name in self.phases:
            return False
        whole = self.parity((u, v, mode))
        self.edges.remove((u, v, mode))
        self.colors[name], self.phases[name] = "green", 0
        self.connect(u, name, wanted)
        self.connect(name, v, (whole - wanted) % 2)
        return True

    def unloop(self, node, mode):
        if (node, node, mode) not in self.edges:
            return False
        self.edges.remove((node, node, mode))
        if mode == "crossed":
            self.phases[node] += 2
            self.add(-1)
        return True

    def cancel(self, node, other):
        found = self.odd(node, other)
        if node == other or len(found) < 2:
            return False
        self.edges.remove(found[0])
        self.edges.remove(found[1])
        self.add(-2)
        return True

    def evaluate(self, node):
        if self.at(node):
            return False
        phase = self.phases[node]
        self.remove(node)
        if phase == 2:
            self.scalar = None
        else:
            self.add(*{0: (2, 0), 1: (1, 1), 3: (1, 7)}[phase])
        return True

    def complement(self, node):
        found, t = self.at(node), self.phases[node]
        near = [far for _, far, _ in found]
        if t not in (1, 3) or any(not odd for _, _, odd in found) or len(set(near)) < len(near):
            return False
        if any(far == node or far.isdigit() for far in near):
            return False
        self.remove(node)
        for at, one in enumerate(near):
            self.phases[one] -= t
            for other in near[:at]:
                self.toggle(one, other)
        self.add(1 - len(near), {1: 1, 3: 7}[t])
        return True

    def pivot(self, y, z):
        s, t = self.phases[y], self.phases[z]
        if y == z or s not in (0, 2) or len(self.between(y, z)) != 1 or len(self.odd(y, z)) != 1:
            return False
        sides = []
        for node, partner in ((y, z), (z, y)):
            others = [item for item in self.at(node) if item[1] != partner]
            side = [far for _, far, _ in others]
            if any(not odd or far == node or far.isdigit() for _, far, odd in others) or len(set(side)) < len(side):
                return False
            sides.append(sorted(side))
        self.remove(y)
        self.remove(z)
        first, second = sides
        for a in first:
            for b in second:
                if a != b:
                    self.toggle(a, b)
        for node in self.phases:
            if node in first and node in second:
                self.phases[node] += 2
            if node in second:
                self.phases[node] += s
            if node in first:
                self.phases[node] += -t if t % 2 and s == 2 else t
        if t % 2:
            for at, one in enumerate(first):
                for other in first[:at]:
                    self.toggle(one, other)
        self.add(1 - len(first) - len(second), s * t)
        return True

    def rename(self, node, name):
        if name in self.phases:
            return False
        self.colors[name], self.phases[name] = self.colors.pop(node), self.phases.pop(node)
        self.edges = [(name if u == node else u, name if v == node else v, mode) for u, v, mode in self.edges]
        return True

    def clear(self):
        if self.scalar is not None:
            return False
        self.count, nodes, edges, _ = zero_form(self.count)
        self.colors = {name: color for name, color, _ in nodes}
        self.phases = {name: phase for name, _, phase in nodes}
        self.edges = list(edges)
        return True


def zero_form(count):
    letters = "abcdefgh"[:count]
    nodes = tuple(("p" + letter, "green", 0) for letter in letters)
    return (count, nodes, tuple((str(at), "p" + letter, "plain") for at, letter in enumerate(letters)), None)


def slow_step(diagram, step):
    """The diagram after a step, or None if the step is not well-formed or not valid."""
    if not well_formed(step):
        return None
    sheet = Sheet(diagram)
    used = step[1:2] if step[0] in ("unloop", "rename") else () if step[0] == "insert" else step[1:]
    if any(name not in sheet.phases for name in used) or not getattr(sheet, step[0])(*step[1:]):
        return None
    return sheet.diagram()


def steps_at(diagram, source):
    """Steps with the nodes and edges of a diagram, valid ones and others."""
    names = [name for name, _, _ in diagram[1]] + ["none"]
    found = [("clear",)]
    for name in names:
        found += [(word, name) for word in ("recolor", "drop", "evaluate", "complement")]
        found += [("unloop", name, mode) for mode in ("crossed", "plain")]
        found += [("rename", name, new) for new in (source.choice(NAMES), name)]
        found += [(word, name, other) for other in names for word in ("fuse", "cancel", "pivot")]
    for u, v, mode in sorted(set(diagram[2])):
        found += [("insert", u, v, mode, source.choice(NAMES), wanted) for wanted in (0, 1)]
        found.append(("insert", u, v, {"plain": "crossed", "crossed": "plain"}[mode], "fresh", 0))
    return found


def slow_walk(diagram, steps):
    """The diagram after all steps, or None if a step is not well-formed or not valid."""
    for step in steps:
        diagram = slow_step(diagram, step)
        if diagram is None:
            return None
    return diagram


def scramble(source, diagram, many):
    """A diagram with the same table, after valid steps, and still small."""
    for _ in range(many):
        steps = steps_at(diagram, source)
        after = slow_step(diagram, source.choice(steps))
        if after is not None and len(after[1]) <= 24 and len(after[2]) <= 200 and (
                after[3] is None or -500 <= after[3][0] <= 500):
            diagram = after
    return diagram


# Drawing.

def draw_scalar(source, power):
    return None if source.random() < 0.05 else (source.randint(-power, power), source.randrange(8))


def draw_nodes(source, many, phases=(0, 1, 2, 3)):
    names = sorted(source.sample(NAMES, many))
    return tuple((name, source.choice(("green", "red")), source.choice(phases)) for name in names)


def draw_mixed(source, count, nodes, edges, power=6):
    """A diagram with loops, repeated edges, both colors, and perhaps wires between ports."""
    drawn = draw_nodes(source, nodes)
    names = [name for name, _, _ in drawn]
    free = [str(port) for port in range(count - count % 2 * (not names))]
    source.shuffle(free)
    ends = []
    while free:
        ends.append((free.pop(), free.pop() if free and (not names or source.random() < 0.15) else source.choice(names)))
    ends += [(source.choice(names), source.choice(names)) for _ in range(edges) if names]
    found = [(min(pair), max(pair), source.choice(("crossed", "plain"))) for pair in ends]
    return (count - count % 2 * (not names), drawn, tuple(sorted(found)), draw_scalar(source, power))


def draw_simple(source, count, nodes, edges, power=6, phases=(0, 1, 2, 3)):
    """A diagram with odd edges between its nodes, at most one for each two, and ports at nodes."""
    drawn = draw_nodes(source, nodes, phases)
    colors = {name: color for name, color, _ in drawn}
    pairs = [(one, other) for one in colors for other in colors if one < other]
    source.shuffle(pairs)
    found = [edge_of(colors, one, other, 1) for one, other in pairs[:edges]]
    found += [edge_of(colors, str(port), source.choice(sorted(colors)), source.randrange(2)) for port in range(count)]
    return (count, drawn, tuple(sorted(found)), draw_scalar(source, power))


def draw_many(seed, many, ports=4, nodes=6, edges=9, power=6):
    """Diagrams of both kinds from a fixed seed."""
    source = random.Random(seed)
    found = []
    for at in range(many):
        sizes = source.randint(0, ports), source.randint(0, nodes), source.randint(0, edges)
        if at % 2 and sizes[1]:
            found.append(draw_simple(source, *sizes, power))
        else:
            found.append(draw_mixed(source, *sizes, power))
    return found


def draw_form(source, count):
    """A form other than the zero form, with any number of ports."""
    heads = [letter for letter in "abcdefgh"[:count] if source.random() < 0.5]
    others = [letter for letter in "abcdefgh"[:count] if letter not in heads]
    nodes = [f"p{letter} green {source.randrange(4) if letter in heads else 0}" for letter in "abcdefgh"[:count]]
    nodes += [f"c{letter} green {source.choice((0, 2))}" for letter in others]
    edges = [f"{at} p{letter} plain" for at, letter in enumerate("abcdefgh"[:count])] + [f"c{at} p{at} crossed" for at in others]
    free = [f"p{one} p{other} crossed" for one, other in combinations(heads, 2)]
    free += [f"c{letter} p{head} crossed" for letter in others for head in heads if head < letter]
    edges += [edge for edge in free if source.random() < 0.5]
    return made(count, nodes, edges, (source.randint(-500, 500), source.randrange(8)))
