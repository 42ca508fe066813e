"""Whether two diagrams have the same table, with a proof that can be checked."""

from spiderwires.arguments import need_small_match, need_two
from spiderwires.diagrams import need_small
from spiderwires.errors import BadStep
from spiderwires.exact import is_number
from spiderwires.forms import form, form_steps, nonzero_form
from spiderwires.steps import walk
from spiderwires.tables import all_rows, entry, form_entry, is_row


def difference(normal, second_normal):
    """Return the first row at which the tables of two different forms differ, with both entries."""
    rows = [(bits, form_entry(normal, bits), form_entry(second_normal, bits)) for bits in all_rows(normal[0])]
    return [(bits, x, y) for bits, x, y in rows if x != y][0]


def compare(one, other):
    """Return ("equal", derivations) or ("different", witness) for two small diagrams."""
    need_small_match(one, other)
    normal = form(one)
    second_normal = form(other)
    if normal == second_normal:
        return ("equal", (form_steps(one), form_steps(other)))
    return ("different", difference(normal, second_normal))


def check_equal(one, other, derivations):
    """Tell whether any value is two derivations that lead from two diagrams to one."""
    need_two(one, other)
    if not isinstance(derivations, tuple) or len(derivations) != 2:
        return False
    try:
        return walk(one, derivations[0]) == walk(other, derivations[1])
    except BadStep:
        return False


def is_witness(value, count):
    """Tell whether any value is a tuple of a row of bits and two different numbers."""
    if not isinstance(value, tuple) or len(value) != 3:
        return False
    bits, x, y = value
    return is_row(bits, count) and is_number(x) and is_number(y) and x != y


def check_different(one, other, witness):
    """Tell whether any value is a row at which the tables of two diagrams differ, with both entries."""
    need_two(one, other)
    if one[0] != other[0] or not is_witness(witness, one[0]):
        return False
    need_small(one)
    need_small(other)
    bits, x, y = witness
    return entry(one, bits) == x and entry(other, bits) == y


def ratio(one, other):
    """Return the scalar by which the table of one is multiplied in the table of other, or None."""
    need_small_match(one, other)
    normal = nonzero_form(one)
    second_normal = nonzero_form(other)
    # Nonzero entries are scalars, so a factor is one too; and it changes only the scalar of a form.
    if normal[:3] != second_normal[:3]:
        return None
    k, j = normal[3]
    second_k, second_j = second_normal[3]
    return (second_k - k, (second_j - j) & 7)
