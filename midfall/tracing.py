"""Traces: the events of fresh runs."""

from midfall.checks import check_procedure, checked_procedures
from midfall.programs import CALLING_KINDS


def trace(program, name, *, cached=()):
    """Yield the events of the fresh run of the procedure, in order."""
    check_procedure(program, name)
    run = FreshRun(program, checked_procedures(program, cached))
    run.ask(name)
    yield from run.events


class FreshRun:
    """A run with no broken place by an eager evaluator, which caches each procedure as soon as its call ends."""

    def __init__(self, program, cached):
        self.program = program
        self.events = []
        # What a step gives that names a procedure whose call is open or that is cached.
        self.known = {name: "reuse" for name in cached.members}

    def ask(self, name):
        """Call a procedure if it is not known."""
        if name in self.known:
            return
        self.known[name] = "cycle"
        self.events.append(("start", name))
        for kind, word in self.program[name]:
            self.step(name, kind, word)
        self.known[name] = "reuse"
        self.events.append(("end", name))

    def step(self, name, kind, word):
        """Execute a step of a procedure."""
        if kind == "read":
            self.events.append(("read", name, word))
        elif kind in CALLING_KINDS:
            if word in self.known:
                self.events.append((self.known[word], name, word))
            self.ask(word)
