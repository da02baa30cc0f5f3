"""A direct reading of points 14 to 19, 22 and 23 for the tests alone: an evaluator whose nodes are numbers."""

import copy
import random

from tests.reference import expected_rows, failing_path, leads_to, plain_difference, CALLING


class StepFailed(Exception):
    """A step makes its call fail."""


class Machine:
    """An evaluator; `kind` is "careful", "trail" or "eager"."""

    def __init__(self, program, kind="careful", marks=(), numbers=None):
        self.program = program
        self.kind = kind
        self.marks = set(marks)
        self.numbers = {place: (numbers or {}).get(place, 0) for place in program.places}
        self.cache = {}
        # Of every node that was ever made: its items, and "open", "completed" or "failed".
        self.items = []
        self.states = []
        self.readings = []
        self.calm = True

    def twin(self):
        """Return a machine in the same state."""
        other = copy.copy(self)
        for name in ("numbers", "cache", "states", "readings"):
            setattr(other, name, getattr(self, name).copy())
        other.items = [items.copy() for items in self.items]
        return other

    # Runs: point 14 in its order, point 17.

    def run(self, name, broken=()):
        """Return ("result", rows) or ("failed", path, place)."""
        self.broken = set(broken)
        # All calls of this run, as pairs of a procedure and a node, and what has become of some of them.
        self.calls = []
        self.dropped = set()
        self.new = set()
        self.readings = []
        self.calm = True
        self.moments = []
        spared = set(self.cache)
        try:
            node = self.node(name)
        except StepFailed:
            node = None
        if self.kind == "careful":
            self.cache |= {procedure: found for procedure, found in self.usable() if self.is_sound(found)}
        if node is None:
            return ("failed", *failing_path(self.program, name, self.broken, spared))
        return "result", self.rows(node)

    def calls_that(self, state):
        return [(procedure, node) for procedure, node in self.calls if self.states[node] == state]

    def usable(self):
        """Return the calls whose nodes have completed in this run, are not cached and have not been dropped."""
        return [(procedure, node) for procedure, node in self.calls_that("completed")
                if node not in self.dropped and self.cache.get(procedure) != node]

    def node(self, name):
        """Return the node of a procedure by the first rule that applies."""
        given = [self.cache.get(name), dict(self.calls_that("open")).get(name)]
        if given == [None, None] and name in dict(self.calls_that("failed")):
            raise StepFailed
        given += [dict(self.usable()).get(name)]
        found = [node for node in given if node is not None]
        return found[0] if found else self.call(name)

    def call(self, name):
        node = len(self.items)
        self.calls.append((name, node))
        self.items.append([])
        self.states.append("open")
        try:
            for kind, word in self.program[name]:
                self.items[node].append(self.item(name, kind, word))
        except StepFailed:
            self.states[node] = "failed"
            self.dropped |= {other for _, other in self.usable() if node in self.reach(other)}
            raise
        self.states[node] = "completed"
        if self.kind in ("trail", "eager") and self.calm:
            self.cache[name] = node
            self.new.add(name)
        return node

    def item(self, name, kind, word):
        if kind == "say":
            return "word", word
        if kind == "read":
            return self.reading(name, word)
        try:
            return "node", self.node(word)
        except StepFailed:
            if kind == "call":
                raise
            return ("gap",)

    def reading(self, name, place):
        self.moments.append((name, place, self.exposed()))
        if self.calm:
            self.readings.append((name, place))
        if place not in self.broken:
            return "number", self.numbers[place]
        if self.calm:
            self.calm = False
            removed = [other for other in self.cache if self.is_removed(other)]
            for other in removed:
                del self.cache[other]
        raise StepFailed

    def is_removed(self, name):
        if self.kind == "trail":
            return name in self.new
        return self.kind == "eager" and name in self.marks and self.leads_to_open(self.cache[name])

    def leads_to_open(self, node):
        return any(self.states[found] == "open" for found in self.reach(node))

    def reach(self, node):
        found = {node}
        while True:
            more = {item[1] for known in found for item in self.items[known] if item[0] == "node"}
            if more <= found:
                return found
            found |= more

    # Points 16, 18 and 19.

    def is_sound(self, node):
        return all(self.states[found] == "completed" and ("gap",) not in self.items[found]
                   for found in self.reach(node))

    def all_sound(self):
        return all(self.is_sound(node) for node in self.cache.values())

    def set(self, place, number):
        """Give the place a number; return the set of the procedures that are removed from the cache."""
        if self.numbers[place] == number:
            return set()
        self.numbers[place] = number
        removed = {name for name in self.cache if any(
            ("read", place) in self.program[other] for other in leads_to(self.program, name, CALLING))}
        for name in removed:
            del self.cache[name]
        return removed

    def wrong(self):
        """Return the procedures of which a calm run returns another result than the calm one."""
        return {name for name in self.program.names if self.returns_another(name)}

    def returns_another(self, name):
        rows = self.twin().run(name)[1]
        return plain_difference(rows, self.program, name, self.numbers, [], []) is not None

    def rows(self, node):
        order = [node] + sorted(self.reach(node) - {node})
        number = {found: at for at, found in enumerate(order)}
        return expected_rows([[("node", number[item[1]]) if item[0] == "node" else item for item in self.items[found]]
                              for found in order])

    def peek(self, name):
        return self.rows(self.cache[name])

    # Point 23.

    def exposed(self):
        return {name for name, node in self.calls_that("completed") if self.leads_to_open(node)}


def expected_hazards(program, name):
    """Return the hazards of the fresh run of a procedure, as midfall.hazards lists them."""
    machine = Machine(program, "eager")
    machine.run(name)
    found = []
    for at, (reader, place, exposed) in enumerate(machine.moments):
        above = [earlier for earlier, read, _ in machine.moments[:at] if read == place]
        if exposed and not any(reader in leads_to(program, earlier, CALLING) for earlier in above):
            found.append((at + 1, reader, place, tuple(sorted(exposed))))
    return found


def all_hazards(program):
    return [hazard for name in program.names for hazard in expected_hazards(program, name)]


def expected_needs(program):
    return {name for _, _, _, exposed in all_hazards(program) for name in exposed}


def expected_faults(program, marks):
    return {reader for _, reader, _, exposed in all_hazards(program) if set(exposed) - set(marks)}


def expected_tainted(program, marks):
    wanted = expected_needs(program) - set(marks)
    return {name for name in program.names if leads_to(program, name, CALLING) & wanted}


def random_events(seed, program, count, policies=False):
    """Return events: runs, new numbers and, if asked for, new policies."""
    chance = random.Random(seed)
    likely = chance.choice([0.1, 0.4, 0.6])
    events = []
    for _ in range(count):
        event = chance.random()
        if event < 0.25 and program.places:
            events.append(("set", chance.choice(program.places), chance.randint(0, 2)))
        elif event < 0.4 and policies:
            marks = [name for name in program.names if chance.random() < 0.4]
            events.append(("use", chance.choice(["careful", "trail", "eager"]), marks))
        else:
            broken = [place for place in program.places if chance.random() < likely]
            events.append(("run", chance.choice(program.names), broken))
    return events
