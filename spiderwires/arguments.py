"""Checks of arguments that several files share: ports, bits, orders, and pairs of diagrams."""

from spiderwires.diagrams import is_within, need_diagram, need_small
from spiderwires.errors import BadBits, BadOrder, BadPort, BadPorts, PortMismatch
from spiderwires.exact import is_whole


def need_port(diagram, port):
    """Raise BadPort if the value is not the index of a port of a diagram."""
    if not is_within(port, 0, diagram[0] - 1):
        raise BadPort("not the index of a port")


def need_ports(diagram, ports):
    """Raise BadPorts if the value is not an ascending tuple of indexes of ports, each at most once."""
    if not isinstance(ports, tuple) or not all([is_within(port, 0, diagram[0] - 1) for port in ports]):
        raise BadPorts("not a tuple of indexes of ports")
    if not all([port < following for port, following in zip(ports, ports[1:])]):
        raise BadPorts("not ascending, or with duplicates")


def need_bit(bit):
    """Raise BadBits if the value is not a bit."""
    if not is_within(bit, 0, 1):
        raise BadBits("not a bit")


def need_order(diagram, order):
    """Raise BadOrder if the value is not a tuple of all indexes of ports, each once."""
    if not isinstance(order, tuple) or not all([is_whole(item) for item in order]):
        raise BadOrder("not a tuple of integers")
    if sorted(order) != list(range(diagram[0])):
        raise BadOrder("not each index of a port once")


def need_two(one, other):
    """Raise BadDiagram if one of two values is not a diagram."""
    need_diagram(one)
    need_diagram(other)


def need_match(one, other):
    """Raise PortMismatch if two diagrams have different numbers of ports."""
    if one[0] != other[0]:
        raise PortMismatch((one[0], other[0]))


def need_small_match(one, other):
    """Raise an error unless both values are small diagrams with equally many ports."""
    need_two(one, other)
    need_match(one, other)
    need_small(one)
    need_small(other)
