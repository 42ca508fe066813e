"""New diagrams from diagrams: side by side, with joined, permuted and closed ports, conjugated."""

from spiderwires.arguments import need_bit, need_order, need_port, need_small_match, need_two
from spiderwires.diagrams import fresh_name, need_diagram
from spiderwires.errors import BadPort, TooLarge
from spiderwires.exact import ZERO, add, conjugated, multiply
from spiderwires.limits import MAX_EDGES, MAX_NODES, MAX_PORTS, MAX_POWER
from spiderwires.tables import table


def need_room(count, nodes, edges, scalar):
    """Raise TooLarge if a diagram of these parts would exceed a bound."""
    if count > MAX_PORTS:
        raise TooLarge(MAX_PORTS)
    if len(nodes) > MAX_NODES:
        raise TooLarge(MAX_NODES)
    if len(edges) > MAX_EDGES:
        raise TooLarge(MAX_EDGES)
    if scalar is not None and not -MAX_POWER <= scalar[0] <= MAX_POWER:
        raise TooLarge(MAX_POWER)


def built(count, nodes, edges, scalar):
    """Return the diagram of parts whose nodes, edges and ends of edges are in any order."""
    need_room(count, nodes, edges, scalar)
    turned = [(min(u, v), max(u, v), mode) for u, v, mode in edges]
    return (count, tuple(sorted(nodes)), tuple(sorted(turned)), scalar)


def renamed_nodes(nodes, names):
    """Return nodes of which those that are keys of names get new names."""
    return [(names.get(name, name), color, phase) for name, color, phase in nodes]


def renamed_edges(edges, names):
    """Return edges whose ends that are keys of names get new names."""
    return [(names.get(u, u), names.get(v, v), mode) for u, v, mode in edges]


def scalar_product(scalar, second_scalar):
    """Return the product of two scalars, whose k may be out of range."""
    if scalar is None or second_scalar is None:
        return None
    return (scalar[0] + second_scalar[0], (scalar[1] + second_scalar[1]) & 7)


def apart(one, other):
    """Return new names for the nodes of other whose names one has too."""
    taken = {name: True for name, _, _ in one[1] + other[1]}
    used = {name: True for name, _, _ in one[1]}
    names = {}
    for name, _, _ in other[1]:
        if name in used:
            names[name] = fresh_name(taken)
            taken[names[name]] = True
    return names


def tensor(one, other):
    """Return two diagrams side by side."""
    need_two(one, other)
    names = apart(one, other)
    for port in range(other[0]):
        names[str(port)] = str(one[0] + port)
    nodes = list(one[1]) + renamed_nodes(other[1], names)
    edges = list(one[2]) + renamed_edges(other[2], names)
    return built(one[0] + other[0], nodes, edges, scalar_product(one[3], other[3]))


def without_ports(count, ports, name):
    """Return new names for all ports: this name for some, and the next indexes for the others."""
    names = {str(port): name for port in ports}
    others = [port for port in range(count) if port not in ports]
    for place, port in enumerate(others):
        names[str(port)] = str(place)
    return names


def with_node(diagram, ports, color, phase, scalar):
    """Return a diagram in which one new node takes the place of some ports."""
    count, nodes, edges, _ = diagram
    name = fresh_name({node[0]: True for node in nodes})
    moved = renamed_edges(edges, without_ports(count, ports, name))
    return built(count - len(ports), list(nodes) + [(name, color, phase)], moved, scalar)


def join(diagram, first, second):
    """Return a diagram with two of its ports joined."""
    need_diagram(diagram)
    need_port(diagram, first)
    need_port(diagram, second)
    if first == second:
        raise BadPort("the second port is the first one")
    return with_node(diagram, [first, second], "green", 0, diagram[3])


def permute(diagram, order):
    """Return a diagram with its ports in another order."""
    need_diagram(diagram)
    need_order(diagram, order)
    count, nodes, edges, scalar = diagram
    names = {str(port): str(place) for place, port in enumerate(order)}
    return built(count, nodes, renamed_edges(edges, names), scalar)


def conjugate(diagram):
    """Return the diagram with the complex conjugate of each entry."""
    need_diagram(diagram)
    count, nodes, edges, scalar = diagram
    negated = [(name, color, -phase & 3) for name, color, phase in nodes]
    return built(count, negated, edges, None if scalar is None else (scalar[0], -scalar[1] & 7))


def close_port(diagram, port, bit):
    """Return a diagram with the bit of a port fixed and the port removed."""
    need_diagram(diagram)
    need_port(diagram, port)
    need_bit(bit)
    return with_node(diagram, [port], "red", 2 * bit, scalar_product(diagram[3], (-1, 0)))


def inner_product(one, other):
    """Return the sum of the conjugate of each entry of one times the entry of other."""
    need_small_match(one, other)
    rows = {bits: number for bits, number in table(other)}
    total = ZERO
    for bits, number in table(one):
        if bits in rows:
            total = add(total, multiply(conjugated(number), rows[bits]))
    return total
