"""What a diagram is, when it is small, and the parities of its edges."""

from spiderwires.errors import BadDiagram, NoEdge, TooLarge
from spiderwires.exact import is_scalar, is_whole
from spiderwires.limits import MAX_EDGES, MAX_NODES, MAX_PORTS, SOLVE_EDGES, SOLVE_NODES, SOLVE_POWER

COLORS = ("green", "red")
MODES = ("crossed", "plain")
MAX_LETTERS = 8
PORT_LETTERS = "abcdefgh"
LETTERS = "abcdefghijklmnopqrstuvwxyz"


def is_one_of(value, words):
    """Tell whether any value is one of these strings."""
    return isinstance(value, str) and value in words


def is_within(value, low, high):
    """Tell whether any value is an integer from low to high."""
    return is_whole(value) and low <= value <= high


def is_node_name(value):
    """Tell whether any value can be the name of a node."""
    if not isinstance(value, str) or not 1 <= len(value) <= MAX_LETTERS:
        return False
    return all(["a" <= letter <= "z" for letter in value])


def port_names(count):
    """Return the names of this many ports in ascending order."""
    return [str(port) for port in range(count)]


def port_node(port):
    """Return the name of the node of a port in a form."""
    return "p" + PORT_LETTERS[port]


def check_node(port):
    """Return the name of the check node of a port in a form."""
    return "c" + PORT_LETTERS[port]


def spelled(number):
    """Return the name of a node for a number; it has three letters, where the names in a form have two."""
    return "x" + LETTERS[number // 26] + LETTERS[number % 26]


def fresh_name(names):
    """Return a name that is no key of names and that no node of a form can have."""
    number = 0
    while spelled(number) in names:
        number += 1
    return spelled(number)


def is_node(value):
    """Tell whether any value is a node by itself."""
    if not isinstance(value, tuple) or len(value) != 3:
        return False
    name, color, phase = value
    return is_node_name(name) and is_one_of(color, COLORS) and is_within(phase, 0, 3)


def are_nodes(value):
    """Tell whether any value is the nodes of a diagram."""
    if not isinstance(value, tuple) or len(value) > MAX_NODES:
        return False
    if not all([is_node(node) for node in value]):
        return False
    names = [name for name, _, _ in value]
    return all([one < other for one, other in zip(names, names[1:])])


def is_edge(value, names):
    """Tell whether any value is an edge by itself, with both ends among the keys of names."""
    if not isinstance(value, tuple) or len(value) != 3:
        return False
    u, v, mode = value
    if not isinstance(u, str) or not isinstance(v, str) or not is_one_of(mode, MODES):
        return False
    return u in names and v in names and u <= v


def are_edges(value, nodes, ports):
    """Tell whether any value is the edges of a diagram with these nodes and port names."""
    if not isinstance(value, tuple) or len(value) > MAX_EDGES:
        return False
    names = {name: True for name in ports}
    for name, _, _ in nodes:
        names[name] = True
    if not all([is_edge(edge, names) for edge in value]):
        return False
    if not all([one <= other for one, other in zip(value, value[1:])]):
        return False
    used = [end for u, v, _ in value for end in (u, v) if end in ports]
    return sorted(used) == ports


def is_diagram(value):
    """Tell whether any value is a diagram."""
    if not isinstance(value, tuple) or len(value) != 4:
        return False
    count, nodes, edges, scalar = value
    if not is_within(count, 0, MAX_PORTS) or not is_scalar(scalar) or not are_nodes(nodes):
        return False
    return are_edges(edges, nodes, port_names(count))


def need_diagram(diagram):
    """Raise BadDiagram if the value is not a diagram."""
    if not is_diagram(diagram):
        raise BadDiagram("not a diagram (count, nodes, edges, scalar) with all that belongs to it")


def need_small(diagram):
    """Raise TooLarge if a diagram is not small."""
    _, nodes, edges, scalar = diagram
    if len(nodes) > SOLVE_NODES:
        raise TooLarge(SOLVE_NODES)
    if len(edges) > SOLVE_EDGES:
        raise TooLarge(SOLVE_EDGES)
    if scalar is not None and not -SOLVE_POWER <= scalar[0] <= SOLVE_POWER:
        raise TooLarge(SOLVE_POWER)


def is_flipped(colors, u, v):
    """Tell whether just one end of an edge is at a red node: then a plain edge is odd.

    Colors has the color of each node.  A loop at a red node has two such ends.
    """
    return (colors.get(u) == "red") != (colors.get(v) == "red")


def mode_parity(colors, u, v, mode):
    """Return the parity of an edge of this mode between u and v."""
    return int((mode == "crossed") != is_flipped(colors, u, v))


def parity_mode(colors, u, v, parity):
    """Return the mode of an edge of this parity between u and v."""
    return "crossed" if (parity == 1) != is_flipped(colors, u, v) else "plain"


def edge_parity(diagram, edge):
    """Return the parity of an edge of a diagram."""
    need_diagram(diagram)
    _, nodes, edges, _ = diagram
    # Only strings are compared with the edges, since other values may equal anything.
    if not isinstance(edge, tuple) or not all([isinstance(item, str) for item in edge]) or edge not in edges:
        raise NoEdge(edge)
    u, v, mode = edge
    return mode_parity({name: color for name, color, _ in nodes}, u, v, mode)
