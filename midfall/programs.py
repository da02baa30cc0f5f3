"""Programs: procedures with bodies of steps, and the text of a program."""

from midfall.errors import InvalidProgram, UnknownProcedure
from midfall.names import is_name
from midfall.namesets import NameSet

KINDS = ("read", "say", "call", "try")
CALLING_KINDS = ("call", "try")
MOST_STEPS = 12
MOST_PROCEDURES = 16


class Program:
    """Procedures with different names, in program order."""

    def __init__(self, procedures):
        self._bodies = _checked_bodies(procedures)
        _check_callees(self._bodies)
        self.names = tuple(self._bodies)
        self.places = _places(self._bodies)

    @classmethod
    def parse(cls, text):
        """Return the program that has the text."""
        return cls([_parsed_line(line) for line in text.split("\n")])

    def text(self):
        """Return the text of the program."""
        return "\n".join([_line(name, self._bodies[name]) for name in self.names])

    def __getitem__(self, name):
        if name not in self.names:
            raise UnknownProcedure(name)
        return self._bodies[name]

    # Without this, Python would iterate by program[0], program[1] and so on.
    def __iter__(self):
        raise TypeError("a program is not iterated over: take its names")

    def __contains__(self, name):
        return name in self.names

    def __len__(self):
        return len(self.names)

    def __eq__(self, other):
        return isinstance(other, Program) and self.names == other.names and self._bodies == other._bodies


def _checked_bodies(procedures):
    """Return a dict from names to bodies, in program order."""
    bodies = {}
    for line, (name, body) in enumerate(procedures, start=1):
        if line > MOST_PROCEDURES or not is_name(name) or name in bodies or not _is_body(body):
            raise InvalidProgram(line)
        bodies[name] = tuple(body)
    if not bodies:
        raise InvalidProgram(1)
    return bodies


def _is_body(steps):
    return len(steps) <= MOST_STEPS and all([_is_step(step) for step in steps])


def _is_step(step):
    return isinstance(step, tuple) and len(step) == 2 and step[0] in KINDS and is_name(step[1])


# This comes after all other checks: a wrong procedure further down counts first.
def _check_callees(bodies):
    for line, body in enumerate(bodies.values(), start=1):
        for kind, name in body:
            if kind in CALLING_KINDS and name not in bodies:
                raise InvalidProgram(line)


def _places(bodies):
    return NameSet([name for body in bodies.values() for kind, name in body if kind == "read"]).members


def _line(name, body):
    return name + ":" + ",".join([f" {kind} {word}" for kind, word in body])


def _parsed_line(line):
    """Return the procedure of a line, or one without a name if the line has another form."""
    name, _, steps = line.partition(":")
    body = [_parsed_step(step) for step in steps.split(",")] if steps else []
    # The pieces were cut out without a look at what stands between them.
    if _line(name, body) != line:
        return "", []
    return name, body


def _parsed_step(step):
    kind, _, name = step[1:].partition(" ")
    return kind, name
