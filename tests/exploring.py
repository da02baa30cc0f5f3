"""All states of an evaluator that runs lead to, for the tests alone."""

from tests.machine import expected_needs
from tests.reference import random_program, subsets


def risky_programs(count, start=0, **sizes):
    """Return programs of which some fresh run has a hazard."""
    found = []
    seed = start
    while len(found) < count:
        program = random_program(seed, **sizes)
        if expected_needs(program):
            found.append(program)
        seed += 1
    return found


def state_key(machine):
    """Return a value that is equal for machines whose caches have equal results."""
    return tuple((name, repr(machine.peek(name))) for name in sorted(machine.cache))


class States:
    """The states that runs lead to from a machine: `known` has a machine for each, `moves` their runs.

    A move is a triple of the event, the key of the next state, and the number of readings.
    """

    def __init__(self, machine):
        self.first = state_key(machine)
        self.known = {self.first: machine.twin()}
        self.moves = {}
        waiting = [self.first]
        while waiting:
            key = waiting.pop()
            self.moves[key] = []
            for name in machine.program.names:
                for broken in subsets(machine.program.places):
                    after = self.known[key].twin()
                    after.run(name, broken)
                    following = state_key(after)
                    self.moves[key].append((("run", name, tuple(broken)), following, len(after.readings)))
                    if following not in self.known:
                        self.known[following] = after
                        waiting.append(following)

    def unsound(self):
        """Return the keys of the states with a cached node that is not sound."""
        return {key for key, machine in self.known.items() if not machine.all_sound()}

    def leading_to(self, targets):
        """Return the keys of the states from which runs lead to one of the targets."""
        found = set(targets)
        while True:
            more = {key for key, moves in self.moves.items() if any(after in found for _, after, _ in moves)}
            if more <= found:
                return found
            found |= more

    def fewest_readings(self):
        """Return the fewest readings that lead from the first state to one that is not sound, or None."""
        costs = {self.first: 0}
        waiting = [self.first]
        while waiting:
            key = waiting.pop()
            for _, after, count in self.moves[key]:
                if costs[key] + count < costs.get(after, costs[key] + count + 1):
                    costs[after] = costs[key] + count
                    waiting.append(after)
        return min([costs[key] for key in self.unsound()], default=None)
