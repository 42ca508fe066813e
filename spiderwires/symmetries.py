"""Words that act on tables, and those that keep a table."""

from spiderwires.diagrams import check_node, is_within, need_diagram, port_node
from spiderwires.errors import BadWord
from spiderwires.forms import nonzero_form
from spiderwires.limits import MAX_PORTS
from spiderwires.tables import form_table

WORD_LETTERS = "IXYZ"

# The product of two different letters other than I, with the power of i that comes with it.
PRODUCTS = {
    "XY": (1, "Z"), "YZ": (1, "X"), "ZX": (1, "Y"),
    "YX": (3, "Z"), "ZY": (3, "X"), "XZ": (3, "Y"),
}


def is_word(value):
    """Tell whether any value is a word for at most eight ports."""
    if not isinstance(value, tuple) or len(value) != 2:
        return False
    power, letters = value
    if not is_within(power, 0, 3) or not isinstance(letters, str) or len(letters) > MAX_PORTS:
        return False
    return all([letter in WORD_LETTERS for letter in letters])


def need_word(word):
    """Raise BadWord if the value is not a word."""
    if not is_word(word):
        raise BadWord("not a pair of a power and a string of the letters I, X, Y, Z")


def need_letters(word, count):
    """Raise BadWord if the value is not a word of this many letters."""
    need_word(word)
    if len(word[1]) != count:
        raise BadWord("not the right number of letters")


def letter_product(letter, second_letter):
    """Return the product of two letters as a pair of a power and a letter."""
    if letter == second_letter:
        return (0, "I")
    if letter == "I":
        return (0, second_letter)
    if second_letter == "I":
        return (0, letter)
    return PRODUCTS[letter + second_letter]


def product_of(word, second_word):
    """Return the product of two words of equally many letters."""
    pairs = [letter_product(letter, second_letter) for letter, second_letter in zip(word[1], second_word[1])]
    power = word[0] + second_word[0] + sum([turns for turns, _ in pairs])
    return (power & 3, "".join([letter for _, letter in pairs]))


def word_product(word, second_word):
    """Return the word that acts as a second word followed by a word does."""
    need_word(word)
    need_letters(second_word, len(word[1]))
    return product_of(word, second_word)


def turned(number, quarters):
    """Return a number times i to a power."""
    a, b, c, d, k = number
    for _ in range(quarters):
        # i is w ** 2, and w ** 4 is -1.
        a, b, c, d = -c, -d, a, b
    return (a, b, c, d, k)


def moved_row(bits, letters):
    """Return where a word without a power moves the entry at some bits, and the power of i that it gets."""
    quarters = 0
    for bit, letter in zip(bits, letters):
        if letter == "Y":
            quarters += 3 if bit == 1 else 1
        elif letter == "Z":
            quarters += 2 * bit
    moved = [1 - bit if letter in "XY" else bit for bit, letter in zip(bits, letters)]
    return (tuple(moved), quarters)


def keeps(diagram, word):
    """Tell whether a word keeps the table of a small diagram."""
    need_diagram(diagram)
    need_letters(word, diagram[0])
    power, letters = word
    rows = {bits: number for bits, number in form_table(nonzero_form(diagram))}
    for bits in rows:
        moved, quarters = moved_row(bits, letters)
        if rows.get(moved) != turned(rows[bits], (power + quarters) & 3):
            return False
    return True


def neighbors_of(edges, node):
    """Return the other ends of the edges at a node."""
    return [v if u == node else u for u, v, _ in edges if node in (u, v)]


def lettered(count, letters, power):
    """Return the word with letters from a dict by the names of nodes of ports, and I at the other ports."""
    return (power, "".join([letters.get(port_node(port), "I") for port in range(count)]))


def check_word(normal, check, phase):
    """Return the word of a check node: the sum of the bits at its ports is 0 or 1."""
    count, _, edges, _ = normal
    return lettered(count, {node: "Z" for node in neighbors_of(edges, check)}, phase)


def leader_word(normal, leader, phase):
    """Return the word that changes the bit of a leader, and the bits that follow from it."""
    count, _, edges, _ = normal
    letters = {leader: "Y" if phase in (1, 3) else "X"}
    for node in neighbors_of(edges, leader):
        if node[0] == "p":
            # The sign of this edge changes with the bit of the leader.
            letters[node] = "Z"
        elif node[0] == "c":
            letters["p" + node[1]] = "X"
    return lettered(count, letters, 2 if phase in (2, 3) else 0)


def symmetries(diagram):
    """Return a word for each port; their products are all words that keep the table of a small diagram."""
    normal = nonzero_form(diagram)
    phases = {name: phase for name, _, phase in normal[1]}
    words = []
    for port in range(normal[0]):
        check = check_node(port)
        if check in phases:
            words.append(check_word(normal, check, phases[check]))
        else:
            node = port_node(port)
            words.append(leader_word(normal, node, phases[node]))
    return tuple(words)


def all_symmetries(diagram):
    """Return all words that keep the table of a small diagram in ascending order."""
    words = symmetries(diagram)
    found = [(0, "I" * len(words))]
    for word in words:
        found = found + [product_of(word, other) for other in found]
    return tuple(sorted(found))
