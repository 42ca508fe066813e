"""The tables of small diagrams, read off their forms."""

from spiderwires.diagrams import PORT_LETTERS, is_within, need_diagram
from spiderwires.errors import BadBits
from spiderwires.exact import ZERO, scalar_value
from spiderwires.forms import form


def is_row(value, count):
    """Tell whether any value is a tuple of this many bits."""
    return isinstance(value, tuple) and len(value) == count and all([is_within(bit, 0, 1) for bit in value])


def need_bits(diagram, bits):
    """Raise BadBits if the value is not a tuple of one bit for each port of a diagram."""
    if not is_row(bits, diagram[0]):
        raise BadBits("not a tuple of one bit for each port")


def bit_at(bits, name):
    """Return the bit of the port to which a node of a form belongs."""
    return bits[PORT_LETTERS.index(name[1])]


def form_entry(normal, bits):
    """Return the entry of the table of a form.

    The node of a port has the bit of the port.  The sum over both bits of a check node is two
    if all terms are equal, and zero if they differ in sign.
    """
    _, nodes, edges, scalar = normal
    if scalar is None:
        return ZERO
    k, j = scalar
    odd = {}
    for name, _, phase in nodes:
        if name[0] == "c":
            odd[name] = phase == 2
            k += 2
        else:
            j += 2 * phase * bit_at(bits, name)
    for u, v, mode in edges:
        if mode == "crossed":
            k -= 1
            # A check comes before the nodes of ports in the order of names.
            if u in odd:
                odd[u] = odd[u] != (bit_at(bits, v) == 1)
            else:
                j += 4 * bit_at(bits, u) * bit_at(bits, v)
    if any(odd.values()):
        return ZERO
    return scalar_value((k, j & 7))


def all_rows(count):
    """Return all tuples of this many bits in ascending order."""
    return [tuple([(row >> place) & 1 for place in reversed(range(count))]) for row in range(1 << count)]


def entry(diagram, bits):
    """Return the entry of a small diagram at a tuple of bits."""
    need_diagram(diagram)
    need_bits(diagram, bits)
    return form_entry(form(diagram), bits)


def form_table(normal):
    """Return all pairs (bits, number) with a nonzero entry of a form in ascending order."""
    pairs = [(bits, form_entry(normal, bits)) for bits in all_rows(normal[0])]
    return [(bits, number) for bits, number in pairs if number != ZERO]


def table(diagram):
    """Return all pairs (bits, number) with a nonzero entry of a small diagram in ascending order."""
    return form_table(form(diagram))
