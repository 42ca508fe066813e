"""Steps: which values they are, and what they do to a diagram."""

from spiderwires.diagrams import MODES, is_node_name, is_one_of, is_within, need_diagram, port_names
from spiderwires.errors import BadStep
from spiderwires.graphs import diagram_of, graph_of
from spiderwires.limits import MAX_PORTS
from spiderwires.rewriting import ACTIONS

# What the items behind the word of a step are: a node that the diagram has, a
# new name, a node or port, a mode, or a parity.
KINDS = {
    "recolor": ("node",),
    "fuse": ("node", "node"),
    "drop": ("node",),
    "insert": ("end", "end", "mode", "name", "parity"),
    "unloop": ("node", "mode"),
    "cancel": ("node", "node"),
    "evaluate": ("node",),
    "complement": ("node",),
    "pivot": ("node", "node"),
    "rename": ("node", "name"),
    "clear": (),
}


def is_item(value, kind):
    """Tell whether any value is of a kind that an item of a step can have."""
    if kind == "mode":
        return is_one_of(value, MODES)
    if kind == "parity":
        return is_within(value, 0, 1)
    if kind == "end" and is_one_of(value, port_names(MAX_PORTS)):
        return True
    return is_node_name(value)


def is_step(value):
    """Tell whether any value is a well-formed step."""
    if not isinstance(value, tuple) or len(value) == 0 or not is_one_of(value[0], list(KINDS)):
        return False
    kinds = KINDS[value[0]]
    if len(value) != 1 + len(kinds) or not all([is_item(item, kind) for item, kind in zip(value[1:], kinds)]):
        return False
    return value[0] != "insert" or value[1] <= value[2]


def perform(graph, step):
    """Take a step that any value may be; return False if it is not valid for the graph.

    A graph is of no use after a step that is not valid.
    """
    if not is_step(step):
        return False
    items = step[1:]
    for item, kind in zip(items, KINDS[step[0]]):
        if kind == "node" and item not in graph.phases:
            return False
    action = ACTIONS[step[0]]
    return action(graph, *items) and graph.fits()


def apply_step(diagram, step):
    """Return the diagram after a step."""
    need_diagram(diagram)
    graph = graph_of(diagram)
    if not perform(graph, step):
        raise BadStep(0)
    return diagram_of(graph)


def walk(diagram, steps):
    """Return the diagram after all steps of a derivation."""
    need_diagram(diagram)
    if not isinstance(steps, (tuple, list)):
        raise BadStep(0)
    graph = graph_of(diagram)
    for index, step in enumerate(steps):
        if not perform(graph, step):
            raise BadStep(index)
    return diagram_of(graph)
