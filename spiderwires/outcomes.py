"""The chances of bits at the ports of a diagram."""

from spiderwires.arguments import need_bit, need_port, need_ports
from spiderwires.diagrams import need_diagram
from spiderwires.forms import nonzero_form
from spiderwires.tables import form_table


def shares(diagram, ports):
    """Return a dict from all possible bits at some ports to their chances.

    All nonzero entries have one absolute value, and their rows are the solutions of linear
    equations, so that all possible bits at the ports belong to equally many rows.
    """
    rows = form_table(nonzero_form(diagram))
    found = {tuple([bits[port] for port in ports]): True for bits, _ in rows}
    return {bits: (1, len(found)) for bits in found}


def chance(diagram, port, bit):
    """Return the chance of a bit at a port."""
    need_diagram(diagram)
    need_port(diagram, port)
    need_bit(bit)
    return shares(diagram, [port]).get((bit,), (0, 1))


def outcomes(diagram, ports):
    """Return all pairs (bits, chance) of bits at some ports whose chance is not 0 in ascending order."""
    need_diagram(diagram)
    need_ports(diagram, ports)
    found = shares(diagram, ports)
    return [(bits, found[bits]) for bits in sorted(found)]
