"""What procedures reach, require and read."""

from midfall.checks import check_place, check_procedure, checked_procedures
from midfall.namesets import NameSet
from midfall.programs import CALLING_KINDS

REQUIRING_KINDS = ("call",)


def reached(program, name):
    """Return the procedures that the procedure reaches."""
    return NameSet(list(paths_from(program, [name], CALLING_KINDS)))


def required(program, name):
    """Return the procedures that the procedure requires."""
    return NameSet(list(paths_from(program, [name], REQUIRING_KINDS)))


def closure(program, names):
    """Return the smallest closed set that contains the procedures."""
    members = checked_procedures(program, names).members
    return NameSet(list(paths_from(program, members, CALLING_KINDS)))


def readers(program, place):
    """Return the procedures that read the place."""
    check_place(program, place)
    return NameSet([name for name in program.names if ("read", place) in program[name]])


def breaks(program, name, *, spared=()):
    """Return the places of which one that is broken makes a plain run of the procedure fail."""
    check_procedure(program, name)
    paths = requiring_paths(program, name, checked_procedures(program, spared))
    return NameSet([place for found in paths for kind, place in program[found] if kind == "read"])


def requiring_paths(program, name, spared):
    """Return the paths by `call` steps from a procedure to those that it requires, past none that is spared."""
    return paths_from(program, [name], REQUIRING_KINDS, spared)


def paths_from(program, names, kinds, left_out=()):
    """Return a dict from each procedure that steps of these kinds lead to from `names` to its path.

    The path is the shortest one, and among several of them the one that takes the earlier step where they
    part. The dict has the paths in this order, too. Raise UnknownProcedure for an unknown name.
    """
    paths = {name: (name,) for name in names if name not in left_out}
    found = list(paths)
    at = 0
    while at < len(found):
        caller = found[at]
        for kind, callee in program[caller]:
            if kind in kinds and callee not in left_out and callee not in paths:
                paths[callee] = paths[caller] + (callee,)
                found.append(callee)
        at += 1
    return paths
