"""Alike procedures: those whose plain runs do the same in every world."""

from midfall.checks import check_procedure
from midfall.graphs import breaks
from midfall.namesets import NameSet
from midfall.plain import rows_of_all
from midfall.rows import GAP, difference_path


def alike(program, name, other, other_name):
    """Tell whether a procedure of one program and one of another, or of the same, are alike."""
    return parting(program, name, other, other_name) is None


def parting(program, name, other, other_name):
    """Return the broken places and the path of the first world in which they differ, or None."""
    check_procedure(program, name)
    check_procedure(other, other_name)
    places = NameSet(program.places + other.places).members
    numbers = {place: number for number, place in enumerate(places)}
    one, two = Side(program, name, numbers), Side(other, other_name, numbers)
    for broken in [()] + [(place,) for place in places]:
        path = _difference(one, two, broken)
        if path is not None:
            return broken, path
    return None


def _difference(one, two, broken):
    """Return the path at which two procedures differ in a world, empty if just one fails, or None."""
    if one.fails(one.name, broken) or two.fails(two.name, broken):
        return None if one.fails(one.name, broken) and two.fails(two.name, broken) else ()
    return difference_path(one.world_rows(broken), two.world_rows(broken), one.start, two.start)


class Side:
    """One of two procedures that are compared, with its program."""

    def __init__(self, program, name, numbers):
        self.program = program
        self.name = name
        self.numbers = numbers
        self.start = program.names.index(name)
        self.weak_points = {callee: breaks(program, callee) for callee in program.names}

    def fails(self, name, broken):
        """Tell whether the plain run of a procedure fails in the world with these broken places."""
        return any([place in self.weak_points[name] for place in broken])

    def world_rows(self, broken):
        """Return a row for each procedure that describes its plain result, if it does not fail."""
        nodes = {name: GAP if self.fails(name, broken) else ("node", at)
                 for at, name in enumerate(self.program.names)}
        return rows_of_all(self.program, self.numbers, nodes)
