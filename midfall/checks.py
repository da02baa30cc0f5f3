"""Checks of the names that are passed along with a program."""

from midfall.errors import UnknownPlace, UnknownProcedure
from midfall.namesets import NameSet


def check_procedure(program, name):
    """Raise UnknownProcedure if the program has no procedure of this name."""
    if name not in program:
        raise UnknownProcedure(name)


def checked_procedures(program, names):
    """Return a set of names as a NameSet; raise UnknownProcedure for the least unknown one."""
    known = NameSet(names)
    for name in known.members:
        check_procedure(program, name)
    return known


def check_place(program, place):
    """Raise UnknownPlace if the program has no place of this name."""
    if place not in program.places:
        raise UnknownPlace(place)


def checked_places(program, places):
    """Return a set of names as a NameSet; raise UnknownPlace for the least unknown one."""
    known = NameSet(places)
    for place in known.members:
        check_place(program, place)
    return known


def checked_numbers(program, numbers):
    """Return a dict with the number of every place; raise UnknownPlace for the least unknown one."""
    given = {} if numbers is None else numbers
    checked_places(program, list(given))
    return {place: given.get(place, 0) for place in program.places}
