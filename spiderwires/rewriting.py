"""The eleven kinds of steps as changes of a graph.

Each function here is given items of the right kinds, and nodes that exist.
It returns False if a condition of its step fails; else it changes the graph
and returns True.
"""

from itertools import combinations

from spiderwires.diagrams import mode_parity, port_node


def recolor_node(graph, node):
    """Change the color of a node; its wires keep their parities, so their modes change."""
    graph.colors[node] = "red" if graph.colors[node] == "green" else "green"
    return True


def fuse_nodes(graph, node, other):
    """Fuse two nodes of one color along a plain edge, which is even there."""
    if node == other or graph.colors[node] != graph.colors[other] or graph.many(node, other, 0) == 0:
        return False
    graph.cut(node, other, 0)
    moved = [(far, parity, copies) for (far, parity), copies in graph.ends[other].items()]
    graph.turn(node, graph.phases[other])
    graph.remove_node(other)
    for far, parity, copies in moved:
        graph.wire(node, node if far == other else far, parity, copies)
    return True


def drop_node(graph, node):
    """Replace a node of phase 0 with two ends of wires by one wire."""
    held = [end for end, copies in graph.ends[node].items() for _ in range(copies)]
    if graph.phases[node] != 0 or len(held) != 2 or node in [far for far, _ in held]:
        return False
    graph.remove_node(node)
    (u, parity), (v, second_parity) = held
    graph.wire(u, v, parity ^ second_parity)
    return True


def insert_node(graph, u, v, mode, name, parity):
    """Put a new node of phase 0 on an edge."""
    whole = mode_parity(graph.colors, u, v, mode)
    if graph.many(u, v, whole) == 0 or name in graph.phases:
        return False
    graph.cut(u, v, whole)
    graph.add_node(name, "green", 0)
    graph.wire(u, name, parity)
    graph.wire(name, v, whole ^ parity)
    return True


def unloop_node(graph, node, mode):
    """Remove a loop."""
    parity = mode_parity(graph.colors, node, node, mode)
    if graph.many(node, node, parity) == 0:
        return False
    graph.cut(node, node, parity)
    if parity == 1:
        graph.turn(node, 2)
        graph.scale(-1, 0)
    return True


def cancel_wires(graph, node, other):
    """Remove two odd wires between two nodes."""
    if node == other or graph.many(node, other, 1) < 2:
        return False
    graph.cut(node, other, 1)
    graph.cut(node, other, 1)
    graph.scale(-2, 0)
    return True


def evaluate_node(graph, node):
    """Replace a node without wires by its sum, a factor of the scalar."""
    if len(graph.ends[node]) > 0:
        return False
    phase = graph.phases[node]
    graph.remove_node(node)
    if phase == 0:
        graph.scale(2, 0)
    elif phase == 1:
        graph.scale(1, 1)
    elif phase == 2:
        graph.scalar = None
    else:
        graph.scale(1, 7)
    return True


def neighbors(graph, node):
    """Return the other ends of the wires at a node.

    Return None if a wire is even, a loop or to a port, or if two wires lead to one node.
    """
    for (far, parity), copies in graph.ends[node].items():
        if parity == 0 or copies > 1 or far == node or far not in graph.phases:
            return None
    return [far for far, _ in graph.ends[node]]


def toggle_pairs(graph, names):
    """Toggle each pair of these nodes once."""
    for a, b in combinations(names, 2):
        graph.toggle(a, b)


def complement_node(graph, node):
    """Remove a node of phase 1 or 3 and connect its neighbors with each other."""
    phase = graph.phases[node]
    near = neighbors(graph, node)
    if near is None or phase not in (1, 3):
        return False
    graph.remove_node(node)
    for name in near:
        graph.turn(name, -phase)
    toggle_pairs(graph, near)
    graph.scale(1 - len(near), 1 if phase == 1 else 7)
    return True


def pivot_nodes(graph, y, z):
    """Remove two neighbors, the first of phase 0 or 2, and connect their neighbors."""
    s = graph.phases[y]
    t = graph.phases[z]
    near_y = neighbors(graph, y)
    near_z = neighbors(graph, z)
    if s not in (0, 2) or near_y is None or near_z is None or z not in near_y:
        return False
    first = [name for name in near_y if name != z]
    second = [name for name in near_z if name != y]
    graph.remove_node(y)
    graph.remove_node(z)
    for a in first:
        for b in second:
            if a != b:
                graph.toggle(a, b)
            else:
                graph.turn(a, 2)
    for b in second:
        graph.turn(b, s)
    for a in first:
        # An even t is its own negative modulo 4.
        graph.turn(a, t if s == 0 else -t)
    if t in (1, 3):
        toggle_pairs(graph, first)
    graph.scale(1 - len(first) - len(second), s * t)
    return True


def rename_node(graph, node, name):
    """Give a node a new name."""
    if name in graph.phases:
        return False
    held = [(far, parity, copies) for (far, parity), copies in graph.ends[node].items()]
    color = graph.colors[node]
    phase = graph.phases[node]
    graph.remove_node(node)
    graph.add_node(name, color, phase)
    for far, parity, copies in held:
        graph.wire(name, name if far == node else far, parity, copies)
    return True


def clear_graph(graph):
    """Bring a graph of the scalar None to the zero form."""
    if graph.scalar is not None:
        return False
    for node in list(graph.phases):
        graph.remove_node(node)
    for port in range(graph.ports):
        # Wires between two ports are still there.
        for far, parity in list(graph.ends[str(port)]):
            graph.cut(str(port), far, parity)
    for port in range(graph.ports):
        node = port_node(port)
        graph.add_node(node, "green", 0)
        graph.wire(str(port), node, 0)
    return True


ACTIONS = {
    "recolor": recolor_node,
    "fuse": fuse_nodes,
    "drop": drop_node,
    "insert": insert_node,
    "unloop": unloop_node,
    "cancel": cancel_wires,
    "evaluate": evaluate_node,
    "complement": complement_node,
    "pivot": pivot_nodes,
    "rename": rename_node,
    "clear": clear_graph,
}
