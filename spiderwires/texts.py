"""The texts of diagrams and steps."""

from spiderwires.diagrams import need_diagram
from spiderwires.errors import BadStep
from spiderwires.steps import is_step


def diagram_text(diagram):
    """Return the text of a diagram."""
    need_diagram(diagram)
    count, nodes, edges, scalar = diagram
    lines = [f"ports {count}"]
    lines.append("scalar zero" if scalar is None else f"scalar {scalar[0]} {scalar[1]}")
    lines.extend([f"node {name} {color} {phase}" for name, color, phase in nodes])
    lines.extend([f"edge {u} {v} {mode}" for u, v, mode in edges])
    return "\n".join(lines)


def step_line(step):
    """Return the line of a step: its items as words."""
    return " ".join([str(item) for item in step])


def steps_text(steps):
    """Return the text of a tuple or list of well-formed steps."""
    if not isinstance(steps, (tuple, list)):
        raise BadStep(0)
    for index, step in enumerate(steps):
        if not is_step(step):
            raise BadStep(index)
    return "\n".join([step_line(step) for step in steps])
