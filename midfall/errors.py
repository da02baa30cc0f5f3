"""The errors of the package, each with its fields as attributes.

The fields may be any values, so no message is built from them here: a very
long integer, say, has no decimal text. Python shows what was passed.
"""


class MidfallError(ValueError):
    """The base class of all errors of the package."""


class InvalidProgram(MidfallError):
    """A procedure of a program, or a line of its text, is wrong."""

    def __init__(self, line):
        self.line = line


class InvalidResult(MidfallError):
    """A row of a result, or a line of its text, is wrong."""

    def __init__(self, line):
        self.line = line


class InvalidHistory(MidfallError):
    """An event of a history, or a line of its text, is wrong."""

    def __init__(self, line):
        self.line = line


class UnknownProcedure(MidfallError):
    """The program has no procedure of this name."""

    def __init__(self, name):
        self.name = name


class UnknownPlace(MidfallError):
    """The program has no place of this name."""

    def __init__(self, place):
        self.place = place


class NotCached(MidfallError):
    """The procedure is not cached."""

    def __init__(self, name):
        self.name = name


class NoItem(MidfallError):
    """The last index of the path selects no item."""

    def __init__(self, path):
        self.path = path


class CallFailed(MidfallError):
    """The run of a procedure failed: a reading on the path did."""

    def __init__(self, name, path, place):
        self.name = name
        self.path = path
        self.place = place
