"""Programs on wires, translated to diagrams and to forms."""

from spiderwires.diagrams import fresh_name, is_one_of, is_within, port_node
from spiderwires.errors import BadProgram, BadWidth, TooLarge
from spiderwires.forms import form, parity_word
from spiderwires.limits import MAX_PROGRAM, MAX_WIDTH, SOLVE_NODES

# How many items an instruction has, and how many nodes it needs.
ITEMS = {"phase": 3, "cross": 2, "link": 3, "add": 3, "swap": 3}
NODES = {"phase": 1, "cross": 0, "link": 2, "add": 2, "swap": 0}


def green_edge(u, v, parity):
    """Return the edge of this parity between u and v, neither of them red."""
    return (min(u, v), max(u, v), parity_word(parity))


class Wiring:
    """The diagram of a program, of green nodes only, whose wires do not end at the outputs yet.

    The list tips has a pair (name, parity) for each wire: the node or input at which its
    last edge begins, and the parity of this edge so far.
    """

    def __init__(self, width):
        self.width = width
        self.phases = {}
        self.edges = []
        self.scalar = (0, 0)
        self.tips = [(str(wire), 0) for wire in range(width)]

    def put(self, wire, phase):
        """Put a new node on a wire, and return its name."""
        name = fresh_name(self.phases)
        tip, parity = self.tips[wire]
        self.phases[name] = phase
        self.edges.append(green_edge(tip, name, parity))
        self.tips[wire] = (name, 0)
        return name

    def cross(self, wire):
        """Cross the last edge of a wire: two crossings cancel each other."""
        tip, parity = self.tips[wire]
        self.tips[wire] = (tip, 1 - parity)

    def link(self, wire, other):
        """Link two wires by an odd edge, whose factor 1 / sqrt(2) the scalar makes up for."""
        near = self.put(wire, 0)
        far = self.put(other, 0)
        self.edges.append(green_edge(near, far, 1))
        self.scalar = (self.scalar[0] + 1, self.scalar[1])

    def swap(self, wire, other):
        """Exchange two wires."""
        self.tips[wire], self.tips[other] = self.tips[other], self.tips[wire]

    def obey(self, instruction):
        """Let an instruction act on the wires."""
        word, wire, *rest = instruction
        if word == "phase":
            self.put(wire, rest[0])
        elif word == "cross":
            self.cross(wire)
        elif word == "link":
            self.link(wire, rest[0])
        elif word == "swap":
            self.swap(wire, rest[0])
        else:
            # To add a bit is a link between two crossings of the wire that changes.
            self.cross(rest[0])
            self.link(wire, rest[0])
            self.cross(rest[0])

    def finished(self):
        """Return the diagram in which the wires end at the outputs."""
        nodes = [(name, "green", self.phases[name]) for name in sorted(self.phases)]
        last = [green_edge(tip, str(self.width + wire), parity) for wire, (tip, parity) in enumerate(self.tips)]
        return (2 * self.width, tuple(nodes), tuple(sorted(self.edges + last)), self.scalar)


def resumed(normal, width):
    """Return the wiring of a form that has the table of a program, so that more instructions can follow."""
    _, nodes, edges, scalar = normal
    wiring = Wiring(width)
    wiring.phases = {name: phase for name, _, phase in nodes}
    wiring.scalar = scalar
    outputs = [str(width + wire) for wire in range(width)]
    wiring.edges = [edge for edge in edges if edge[0] not in outputs]
    wiring.tips = [(port_node(width + wire), 0) for wire in range(width)]
    return wiring


def is_instruction(value, width):
    """Tell whether any value is a valid instruction of a program of this width."""
    if not isinstance(value, tuple) or len(value) == 0 or not is_one_of(value[0], list(ITEMS)):
        return False
    if len(value) != ITEMS[value[0]]:
        return False
    word, wire, *rest = value
    if not is_within(wire, 0, width - 1):
        return False
    if word == "phase":
        return is_within(rest[0], 0, 3)
    return word == "cross" or (is_within(rest[0], 0, width - 1) and rest[0] != wire)


def need_width(width):
    """Raise BadWidth if the value is not the width of a program."""
    if not is_within(width, 1, MAX_WIDTH):
        raise BadWidth("not an integer within the bounds of a width")


def need_program(width, program):
    """Raise BadProgram if the value is not a program of this width."""
    if not isinstance(program, (tuple, list)) or len(program) > MAX_PROGRAM:
        raise BadProgram(0)
    for index, instruction in enumerate(program):
        if not is_instruction(instruction, width):
            raise BadProgram(index)


def program_diagram(width, program):
    """Return a small diagram with the table of a program."""
    need_width(width)
    need_program(width, program)
    if sum([NODES[instruction[0]] for instruction in program]) > SOLVE_NODES:
        raise TooLarge(SOLVE_NODES)
    wiring = Wiring(width)
    for instruction in program:
        wiring.obey(instruction)
    return wiring.finished()


def long_form(width, program):
    """Return the form of a program of any length: whenever the diagram is full, its form takes its place."""
    wiring = Wiring(width)
    for instruction in program:
        if len(wiring.phases) + NODES[instruction[0]] > SOLVE_NODES:
            wiring = resumed(form(wiring.finished()), width)
        wiring.obey(instruction)
    return form(wiring.finished())


def program_form(width, program):
    """Return the form with the table of a program."""
    need_width(width)
    need_program(width, program)
    return long_form(width, program)


def same_program(width, program, second_program):
    """Tell whether two programs have the same table."""
    need_width(width)
    need_program(width, program)
    need_program(width, second_program)
    return long_form(width, program) == long_form(width, second_program)
