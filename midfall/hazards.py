"""Hazards: readings of fresh runs whose failure can leave a wrong result in the cache of an eager evaluator."""

from midfall.checks import checked_procedures
from midfall.graphs import reached
from midfall.namesets import NameSet
from midfall.tracing import trace


def hazards(program, name):
    """Return the hazards of the fresh run of the procedure, in the order of the readings."""
    nodes = FreshNodes()
    covered = {place: () for place in program.places}
    found = []
    index = 0
    events = list(trace(program, name))
    for kind, procedure, *more in events:
        if kind != "read":
            nodes.follow(kind, procedure, more)
            continue
        index += 1
        place = more[0]
        if procedure not in covered[place]:
            # A covered procedure would add nothing here: what it reaches is covered, too.
            covered[place] = covered[place] + reached(program, procedure).members
            exposed = nodes.exposed()
            if exposed:
                found.append((index, procedure, place, exposed))
    return found


class FreshNodes:
    """The nodes of a fresh run, one for each procedure, as the events of its trace make them."""

    def __init__(self):
        self.pending = []
        # For each procedure, those whose nodes have its node as an item.
        self.holders = {}

    def follow(self, kind, procedure, callees):
        """Take over an event that is no reading."""
        if kind == "start":
            self.pending.append(procedure)
            self.holders[procedure] = []
        elif kind == "end":
            self.pending.pop()
            self.holders[procedure].extend(self.pending[-1:])
        else:
            self.holders[callees[0]].append(procedure)

    def exposed(self):
        """Return the procedures that have completed and lead to an open call, in ascending order."""
        found = list(self.pending)
        at = 0
        while at < len(found):
            callee = found[at]
            for holder in self.holders[callee]:
                if holder not in found:
                    found.append(holder)
            at += 1
        return NameSet(found[len(self.pending):]).members


def needs(program):
    """Return the procedures that are exposed at a hazard of a fresh run."""
    return NameSet([name for _, exposed in _all_hazards(program) for name in exposed])


def faults(program, *, marks=()):
    """Return the procedures that read at a hazard at which a procedure is exposed that is not marked."""
    marked = checked_procedures(program, marks)
    return NameSet([reader for reader, exposed in _all_hazards(program) if len(NameSet(exposed) - marked) > 0])


def tainted(program, *, marks=()):
    """Return the procedures that reach one that is exposed at a hazard of a fresh run and is not marked."""
    unmarked = needs(program) - checked_procedures(program, marks)
    return NameSet([name for name in program.names if len(reached(program, name) & unmarked) > 0])


def _all_hazards(program):
    """Return the reader and the exposed procedures of each hazard of the fresh runs of all procedures."""
    return [(reader, exposed) for name in program.names for _, reader, _, exposed in hazards(program, name)]
