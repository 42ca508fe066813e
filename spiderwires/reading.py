"""Readers of the texts of diagrams and steps."""

from spiderwires.diagrams import is_edge, is_node, port_names
from spiderwires.errors import BadLine
from spiderwires.limits import MAX_EDGES, MAX_NODES, MAX_PORTS, MAX_POWER
from spiderwires.steps import is_step


def spelled_integer(word, low, high):
    """Return the integer from low to high that a word spells, or None; each has one spelling."""
    # A longer word is out of range, however it goes on: it is not worth converting.
    if len(word) > max(len(str(low)), len(str(high))) or not word.removeprefix("-").isdecimal():
        return None
    value = int(word)
    if value < low or value > high or str(value) != word:
        return None
    return value


class Draft:
    """What the lines of a text so far tell of a diagram.

    The dict names has the names that an edge may have, the dict used the names of
    ports that have an edge.  The methods that read a line return False if it breaks
    a rule; a draft is of no use after that.
    """

    def __init__(self):
        self.ports = []
        self.scalar = None
        self.nodes = []
        self.edges = []
        self.names = {}
        self.used = {}

    def read_ports(self, words):
        """Read the line with the number of ports."""
        if len(words) != 2 or words[0] != "ports":
            return False
        count = spelled_integer(words[1], 0, MAX_PORTS)
        if count is None:
            return False
        self.ports = port_names(count)
        self.names = {name: True for name in self.ports}
        return True

    def read_scalar(self, words):
        """Read the line with the scalar."""
        if words == ["scalar", "zero"]:
            return True
        if len(words) != 3 or words[0] != "scalar":
            return False
        k = spelled_integer(words[1], -MAX_POWER, MAX_POWER)
        j = spelled_integer(words[2], 0, 7)
        if k is None or j is None:
            return False
        self.scalar = (k, j)
        return True

    def read_node(self, words):
        """Read the line of a node."""
        if len(words) != 4 or len(self.edges) > 0 or len(self.nodes) == MAX_NODES:
            return False
        node = (words[1], words[2], spelled_integer(words[3], 0, 3))
        if not is_node(node) or (len(self.nodes) > 0 and node[0] <= self.nodes[-1][0]):
            return False
        self.nodes.append(node)
        self.names[node[0]] = True
        return True

    def read_edge(self, words):
        """Read the line of an edge."""
        edge = tuple(words[1:])
        if not is_edge(edge, self.names) or len(self.edges) == MAX_EDGES:
            return False
        if len(self.edges) > 0 and edge < self.edges[-1]:
            return False
        for end in edge[:2]:
            if end in self.used:
                return False
            if end in self.ports:
                self.used[end] = True
        self.edges.append(edge)
        return True

    def read_line(self, number, words):
        """Read the line with this number, from 1."""
        if number == 1:
            return self.read_ports(words)
        if number == 2:
            return self.read_scalar(words)
        if words[0] == "node":
            return self.read_node(words)
        return words[0] == "edge" and self.read_edge(words)

    def diagram(self):
        """Return the diagram of all lines."""
        return (len(self.ports), tuple(self.nodes), tuple(self.edges), self.scalar)


def read_diagram(text):
    """Return the diagram of a text."""
    if not isinstance(text, str):
        raise BadLine(0)
    lines = text.split("\n")
    draft = Draft()
    for number, line in enumerate(lines, start=1):
        if not draft.read_line(number, line.split(" ")):
            raise BadLine(number)
    if len(lines) < 2 or len(draft.used) < len(draft.ports):
        raise BadLine(len(lines) + 1)
    return draft.diagram()


def step_of(words):
    """Return the step of the words of a line, which need not be well-formed."""
    if words[0] == "insert" and words[-1] in ("0", "1"):
        return tuple(words[:-1] + [int(words[-1])])
    return tuple(words)


def read_steps(text):
    """Return the tuple of well-formed steps of a text."""
    if not isinstance(text, str):
        raise BadLine(0)
    # Splitting the empty string would give one empty line.
    lines = text.split("\n") if text != "" else []
    steps = []
    for number, line in enumerate(lines, start=1):
        step = step_of(line.split(" "))
        if not is_step(step):
            raise BadLine(number)
        steps.append(step)
    return tuple(steps)
