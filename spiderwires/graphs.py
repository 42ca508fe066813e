"""A diagram as a graph that steps change in place.

A wire of the graph has a parity where an edge of the diagram has a mode: the
parities, unlike the modes, do not depend on the colors of the nodes.
"""

from spiderwires.diagrams import mode_parity, parity_mode, port_names
from spiderwires.exact import is_scalar
from spiderwires.limits import MAX_EDGES, MAX_NODES


def shift(held, key, by):
    """Change how often a dict holds a key; a key that it holds no more is not in it."""
    copies = held.get(key, 0) + by
    if copies == 0:
        del held[key]
    else:
        held[key] = copies


class Graph:
    """The nodes, wires and scalar of a diagram.

    The dicts colors and phases have a key for each node.  The dict ends has a
    dict for each node and port name: it tells how many wires of a parity lead
    from there to a name, and its keys are pairs (name, parity).
    """

    def __init__(self, count, scalar):
        self.ports = count
        self.scalar = scalar
        self.colors = {}
        self.phases = {}
        self.ends = {port: {} for port in port_names(count)}
        self.size = 0

    def add_node(self, name, color, phase):
        """Add a node without wires."""
        self.colors[name] = color
        self.phases[name] = phase
        self.ends[name] = {}

    def remove_node(self, name):
        """Remove a node with all its wires."""
        for (far, parity), copies in list(self.ends[name].items()):
            self.wire(name, far, parity, -copies)
        del self.colors[name], self.phases[name], self.ends[name]

    def many(self, u, v, parity):
        """Return how many wires of this parity lead from u to v."""
        if u not in self.ends:
            return 0
        return self.ends[u].get((v, parity), 0)

    def wire(self, u, v, parity, copies=1):
        """Add wires; a negative number of copies removes wires, which are there."""
        shift(self.ends[u], (v, parity), copies)
        # A loop is held once by its node.
        if u != v:
            shift(self.ends[v], (u, parity), copies)
        self.size += copies

    def cut(self, u, v, parity):
        """Remove a wire, which is there."""
        self.wire(u, v, parity, -1)

    def turn(self, name, by):
        """Add to the phase of a node."""
        self.phases[name] = (self.phases[name] + by) & 3

    def scale(self, k, j):
        """Add to the scalar, unless it is None."""
        if self.scalar is not None:
            self.scalar = (self.scalar[0] + k, (self.scalar[1] + j) & 7)

    def toggle(self, u, v):
        """Toggle two different nodes."""
        if self.many(u, v, 1) > 0:
            self.cut(u, v, 1)
            self.scale(-1, 0)
        else:
            self.wire(u, v, 1)
            self.scale(1, 0)

    def fits(self):
        """Tell whether the graph is within the bounds of a diagram."""
        return len(self.phases) <= MAX_NODES and self.size <= MAX_EDGES and is_scalar(self.scalar)


def graph_of(diagram):
    """Return the graph of a diagram."""
    count, nodes, edges, scalar = diagram
    graph = Graph(count, scalar)
    for name, color, phase in nodes:
        graph.add_node(name, color, phase)
    for u, v, mode in edges:
        graph.wire(u, v, mode_parity(graph.colors, u, v, mode))
    return graph


def diagram_of(graph):
    """Return the diagram of a graph."""
    nodes = sorted([(name, graph.colors[name], graph.phases[name]) for name in graph.phases])
    edges = []
    for u in graph.ends:
        for (v, parity), copies in graph.ends[u].items():
            # A wire is found at both of its ends and taken once.
            if u <= v:
                edges.extend([(u, v, parity_mode(graph.colors, u, v, parity))] * copies)
    return (graph.ports, tuple(nodes), tuple(sorted(edges)), graph.scalar)
