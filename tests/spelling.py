"""Slow answers about texts that follow the words of point [8], with regular expressions."""

import re

from drawn import ITEMS, well_formed

PORTS = re.compile(r"ports (0|[1-8])")
SCALAR = re.compile(r"scalar (?:zero|(0|-?[1-9][0-9]*) ([0-7]))")
NODE = re.compile(r"node ([a-z]{1,8}) (green|red) ([0-3])")
EDGE = re.compile(r"edge ([0-7]|[a-z]{1,8}) ([0-7]|[a-z]{1,8}) (crossed|plain)")


def slow_text(diagram):
    """The text of a diagram."""
    count, nodes, edges, scalar = diagram
    lines = [("ports", count), ("scalar", "zero") if scalar is None else ("scalar", *scalar)]
    lines += [("node", *node) for node in nodes] + [("edge", *edge) for edge in edges]
    return "\n".join(" ".join(str(word) for word in line) for line in lines)


def good_lines(lines):
    """Tell whether no line breaks a rule by itself or together with the lines before it."""
    kinds = (PORTS, SCALAR)
    for at, line in enumerate(lines):
        if not (kinds[at].fullmatch(line) if at < 2 else NODE.fullmatch(line) or EDGE.fullmatch(line)):
            return False
    if len(lines) > 1 and lines[1] != "scalar zero" and not -2000 <= int(lines[1].split()[1]) <= 2000:
        return False
    more = [line.split() for line in lines[2:]]
    nodes, edges = [line for line in more if line[0] == "node"], [line for line in more if line[0] == "edge"]
    names, ports = [line[1] for line in nodes], [str(port) for port in range(int(lines[0].split()[1]))]
    ends = [end for line in edges for end in line[1:3]]
    return (
        more == nodes + edges and names == sorted(set(names)) and edges == sorted(edges) and len(nodes) <= 80
        and len(edges) <= 1500 and all(line[1] <= line[2] for line in edges) and set(ends) <= {*names, *ports}
        and all(ends.count(port) <= 1 for port in ports)
    )


def slow_bad_line(text):
    """The number of the line that BadLine has for the text of a diagram, or None for a good text."""
    lines = text.split("\n")
    for many in range(1, len(lines) + 1):
        if not good_lines(lines[:many]):
            return many
    ends = [end for line in lines[2:] if line.startswith("edge ") for end in line.split()[1:3]]
    if len(lines) < 2 or any(str(port) not in ends for port in range(int(lines[0].split()[1]))):
        return len(lines) + 1
    return None


def slow_step_of(line):
    """The step of a line, or None."""
    for word, patterns in ITEMS.items():
        found = re.fullmatch(" ".join([word, *(f"({pattern or '0|1'})" for pattern in patterns)]), line)
        if found:
            items = found.groups()
            step = (word, *items[:-1], int(items[-1])) if word == "insert" else (word, *items)
            return step if well_formed(step) else None
    return None


def slow_bad_step_line(text):
    """The number of the line that BadLine has for the text of steps, or None for a good text."""
    for number, line in enumerate(text.split("\n") if text else [], 1):
        if slow_step_of(line) is None:
            return number
    return None


def changed_text(source, text, words):
    """The text with one change at any place: of a word, a line, a space or a character."""
    kind = source.randrange(10)
    parts = re.split("([ \n])", text)
    lines = text.split("\n")
    at = source.randrange(len(lines))
    if kind == 0:
        parts[source.randrange(0, len(parts), 2)] = source.choice(words)
    elif kind == 1:
        one, other = (source.randrange(0, len(parts), 2) for _ in range(2))
        parts[one], parts[other] = parts[other], parts[one]
    elif kind == 2:
        one = source.randrange(0, len(parts), 2)
        parts[one] = source.choice(("", parts[one] + " " + parts[one], parts[one] + source.choice(words), parts[one] + " "))
    elif kind == 3 and len(parts) > 1:
        parts[source.randrange(1, len(parts), 2)] = source.choice(("", "  ", "\n", " ", "\t", "\n\n", " \n"))
    elif kind == 4:
        return "\n".join(lines[:at] + lines[at + 1:])
    elif kind == 5:
        return "\n".join(lines[:at] + [lines[at]] + lines[at:])
    elif kind == 6:
        other = source.randrange(len(lines))
        lines[at], lines[other] = lines[other], lines[at]
        return "\n".join(lines)
    elif kind == 7:
        lines.insert(at, source.choice(("", " ", source.choice(words), source.choice(lines), lines[-1] + " ")))
        return "\n".join(lines)
    elif kind == 8:
        return text + source.choice(("\n", " ", "\n\n", "\n" + lines[at], "0", "a"))
    elif text:
        place = source.randrange(len(text))
        return text[:place] + source.choice(("", text[place] * 2, source.choice("azA0189- .\t~"))) + text[place + 1:]
    return "".join(parts)
