"""Cuts of the ports of a diagram into two sides, and the rank of the table as a matrix."""

from spiderwires.arguments import need_ports
from spiderwires.building import built, renamed_edges, renamed_nodes
from spiderwires.diagrams import check_node, need_diagram, port_node
from spiderwires.forms import form
from spiderwires.symmetries import symmetries

# Two binary digits for each letter; the product of two letters has the exclusive or of theirs.
DIGITS = {"I": 0, "X": 1, "Y": 3, "Z": 2}


def pattern(letters, ports):
    """Return the digits of the letters of a word at some ports as one integer."""
    found = 0
    for port in ports:
        found = 4 * found + DIGITS[letters[port]]
    return found


def independent(patterns):
    """Return how many of these integers are no exclusive or of others before them."""
    basis = []
    for number in patterns:
        rest = number
        for known in basis:
            # The smaller one lacks the leading digit of the known one.
            rest = min(rest, rest ^ known)
        if rest > 0:
            basis.append(rest)
    return len(basis)


def cut_rank(diagram, ports):
    """Return r, where 2 ** r is the rank of the table as a matrix with a row for each choice of bits at some ports."""
    need_diagram(diagram)
    need_ports(diagram, ports)
    patterns = [pattern(letters, ports) for _, letters in symmetries(diagram)]
    # If both sides have tables of their own, each port has one independent word.
    # Each word more that the sides can only keep together makes the rank twice as large.
    return independent(patterns) - len(ports)


def part(normal, ports, scalar):
    """Return the form of some ports of a form that has no edges from their nodes to others."""
    names = {}
    for place, port in enumerate(ports):
        names[str(port)] = str(place)
        names[port_node(port)] = port_node(place)
        names[check_node(port)] = check_node(place)
    nodes = [node for node in normal[1] if node[0] in names]
    edges = [edge for edge in normal[2] if edge[0] in names]
    return built(len(ports), renamed_nodes(nodes, names), renamed_edges(edges, names), scalar)


def split(diagram, ports):
    """Return two small diagrams whose entries multiply to those of a diagram, or None if there are none."""
    if cut_rank(diagram, ports) != 0:
        return None
    # The forms of both sides, side by side, are a form with this table, and there is only one.
    normal = form(diagram)
    others = [port for port in range(normal[0]) if port not in ports]
    k, j = normal[3]
    # The k of a form may be too large for a small diagram, but not half of it.
    half = k >> 1
    return (part(normal, ports, (half, j)), part(normal, others, (k - half, 0)))
