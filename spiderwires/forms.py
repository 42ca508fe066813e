"""Normal forms of small diagrams, and derivations that lead to them.

Each port gets a node of its own, its head, which becomes its node of the form.
All other nodes are inner ones.  They are removed until each inner node has
phase 0 or 2 and leads to heads only: then it says that the bits of these heads
add up to 0 or 1.  Elimination brings these equations to the shape of a form.
"""

from spiderwires.diagrams import check_node, fresh_name, need_diagram, need_small, port_node
from spiderwires.errors import ZeroTable
from spiderwires.graphs import diagram_of, graph_of
from spiderwires.steps import perform


class Reduction:
    """The graph of a diagram on its way to a form.

    The list steps has the steps so far, the list heads the name of the head of
    each port, and the dict checks the name of the check node of each port that
    has one.
    """

    def __init__(self, diagram):
        self.graph = graph_of(diagram)
        self.steps = []
        self.heads = []
        self.checks = {}

    def take(self, *step):
        """Take a step, which is valid."""
        perform(self.graph, step)
        self.steps.append(step)

    def put(self, near, far, near_parity, far_parity):
        """Put a new node on a wire without red ends, and return its name.

        The parities are those of the new wires from near and to far.
        """
        name = fresh_name(self.graph.phases)
        mode = parity_word(near_parity ^ far_parity)
        if near <= far:
            self.take("insert", near, far, mode, name, near_parity)
        else:
            self.take("insert", far, near, mode, name, far_parity)
        return name

    def inner(self):
        """Return the names of the inner nodes."""
        return [name for name in self.graph.phases if name not in self.heads]


def parity_word(parity):
    """Return the mode of an edge of this parity that has no red end."""
    return "crossed" if parity == 1 else "plain"


def make_green(work):
    """Recolor all red nodes."""
    for name in list(work.graph.phases):
        if work.graph.colors[name] == "red":
            work.take("recolor", name)


def add_heads(work):
    """Give each port a head with odd wires to everything but the port."""
    graph = work.graph
    for port in range(graph.ports):
        far, parity = list(graph.ends[str(port)])[0]
        head = work.put(str(port), far, 0, parity)
        if parity == 0:
            work.put(head, far, 1, 1)
        work.heads.append(head)


def even_neighbor(graph, node):
    """Return another node to which an even wire leads, or None."""
    for far, parity in graph.ends[node]:
        if parity == 0 and far != node and far in graph.phases:
            return far
    return None


def fuse_all(work):
    """Fuse until no even wire joins two nodes."""
    for node in list(work.graph.phases):
        # The node itself may have been fused with an earlier one.
        other = even_neighbor(work.graph, node) if node in work.graph.phases else None
        while other is not None:
            work.take("fuse", node, other)
            other = even_neighbor(work.graph, node)


def thin_out(work):
    """Remove all loops, and pairs of odd wires until at most one joins two nodes."""
    graph = work.graph
    for node in list(graph.phases):
        for (far, parity), copies in list(graph.ends[node].items()):
            if far == node:
                for _ in range(copies):
                    work.take("unloop", node, parity_word(parity))
            else:
                # No even wire joins two nodes by now, and a port has just one wire.
                for _ in range(copies // 2):
                    work.take("cancel", node, far)


def removal(work):
    """Return a step that removes an inner node, or None if all inner nodes are equations."""
    graph = work.graph
    inner = work.inner()
    for node in inner:
        if graph.phases[node] in (1, 3):
            return ("complement", node)
        for far, _ in graph.ends[node]:
            if far in inner:
                return ("pivot", node, far)
    return None


def remove_inner(work):
    """Remove inner nodes until all that are left are equations."""
    step = removal(work)
    while step is not None:
        work.take(*step)
        step = removal(work)


def solve(work, node, port):
    """Solve the equation of a node for the bit of a port, and put the result into the others.

    A pivot with the head of the port does this.  A head has a wire to its port, so two new
    nodes take its place first: the new head, and the node that becomes its check.
    """
    head = work.heads[port]
    new_head = work.put(str(port), head, 0, 0)
    check = work.put(new_head, head, 1, 1)
    work.take("pivot", node, head)
    work.heads[port] = new_head
    work.checks[port] = check


def solve_all(work):
    """Solve each equation for its last port, which is thus no leader."""
    for node in work.inner():
        ports = [port for port, head in enumerate(work.heads) if work.graph.many(node, head, 1) > 0]
        if len(ports) == 0:
            work.take("evaluate", node)
        else:
            solve(work, node, ports[-1])


def name_nodes(work):
    """Give all nodes the names of the form."""
    for port, head in enumerate(work.heads):
        work.take("rename", head, port_node(port))
    for port in sorted(work.checks):
        work.take("rename", work.checks[port], check_node(port))


def reduction_of(diagram):
    """Return the reduction of a small diagram to its form."""
    work = Reduction(diagram)
    if work.graph.scalar is not None:
        make_green(work)
        add_heads(work)
        fuse_all(work)
        thin_out(work)
        remove_inner(work)
        solve_all(work)
        name_nodes(work)
    if work.graph.scalar is None:
        work.take("clear")
    return work


def form(diagram):
    """Return the form with the table of a small diagram."""
    need_diagram(diagram)
    need_small(diagram)
    return diagram_of(reduction_of(diagram).graph)


def form_steps(diagram):
    """Return a derivation from a small diagram to its form."""
    need_diagram(diagram)
    need_small(diagram)
    work = reduction_of(diagram)
    if diagram_of(work.graph) == diagram:
        return ()
    return tuple(work.steps)


def nonzero_form(diagram):
    """Return the form with the table of a small diagram, which must not be zero."""
    normal = form(diagram)
    if normal[3] is None:
        raise ZeroTable("all entries of the table are zero")
    return normal


def leaders(diagram):
    """Return the leaders of the form of a small diagram whose table is not zero."""
    count, nodes, _, _ = nonzero_form(diagram)
    names = [name for name, _, _ in nodes]
    return tuple([port for port in range(count) if check_node(port) not in names])
