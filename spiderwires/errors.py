"""The errors in their three families.

A family is only caught, never raised.  Each error keeps its one argument in
the attribute of the same name.
"""


class InvalidInput(ValueError):
    """The family of errors about an argument that is invalid by itself."""


class Conflict(LookupError):
    """The family of errors about arguments that do not fit together."""


class OutOfRange(ArithmeticError):
    """The family of errors about valid arguments that cannot be handled."""


class BadNumber(InvalidInput):
    """An argument is not a number."""

    def __init__(self, reason):
        self.reason = reason


class BadScalar(InvalidInput):
    """An argument is not a scalar."""

    def __init__(self, reason):
        self.reason = reason


class BadDiagram(InvalidInput):
    """An argument is not a diagram."""

    def __init__(self, reason):
        self.reason = reason


class BadPort(InvalidInput):
    """An argument is not the index of a port."""

    def __init__(self, reason):
        self.reason = reason


class BadPorts(InvalidInput):
    """An argument is not an ascending tuple of indexes of ports."""

    def __init__(self, reason):
        self.reason = reason


class BadOrder(InvalidInput):
    """An argument is not an order of all ports."""

    def __init__(self, reason):
        self.reason = reason


class BadBits(InvalidInput):
    """An argument is not a bit, or not the right number of bits."""

    def __init__(self, reason):
        self.reason = reason


class BadStep(InvalidInput):
    """The step at this index is not well-formed or not valid."""

    def __init__(self, index):
        self.index = index


class BadWord(InvalidInput):
    """An argument is not a word with the right number of letters."""

    def __init__(self, reason):
        self.reason = reason


class BadWidth(InvalidInput):
    """An argument is not the width of a program."""

    def __init__(self, reason):
        self.reason = reason


class BadProgram(InvalidInput):
    """The instruction at this index is invalid."""

    def __init__(self, index):
        self.index = index


class BadLine(InvalidInput):
    """The line with this number is the first that breaks a rule."""

    def __init__(self, line):
        self.line = line


class NoEdge(Conflict):
    """The diagram has no such edge."""

    def __init__(self, edge):
        self.edge = edge


class PortMismatch(Conflict):
    """Two diagrams have these different numbers of ports."""

    def __init__(self, counts):
        self.counts = counts


class TooLarge(OutOfRange):
    """A diagram exceeds this limit."""

    def __init__(self, limit):
        self.limit = limit


class ZeroTable(OutOfRange):
    """A table is zero where it must not be."""

    def __init__(self, reason):
        self.reason = reason
