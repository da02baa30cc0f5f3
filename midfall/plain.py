"""Plain results: what a program without a cache returns, and how its runs fail."""

from midfall.checks import check_procedure, checked_numbers, checked_places, checked_procedures
from midfall.errors import CallFailed
from midfall.graphs import requiring_paths
from midfall.results import Result
from midfall.rows import GAP


def plain_result(program, name, *, numbers=None, broken=(), spared=()):
    """Return the plain result of the procedure; raise CallFailed if its plain run fails."""
    check_procedure(program, name)
    spared_names = checked_procedures(program, spared)
    values = checked_numbers(program, numbers)
    broken_places = checked_places(program, broken)
    failed = failure(program, name, broken_places, spared_names)
    if failed is not None:
        raise CallFailed(name, failed[0], failed[1])
    calm_nodes = {callee: ("node", at) for at, callee in enumerate(program.names)}
    nodes = _present_nodes(program, broken_places, spared_names)
    rows = rows_of_all(program, values, calm_nodes) + rows_of_all(program, values, nodes)
    return Result.from_row(rows, nodes[name][1])


def failure(program, name, broken, spared):
    """Return the path and the place of the failed plain run of a procedure, or None if it does not fail."""
    paths = requiring_paths(program, name, spared)
    for found, path in paths.items():
        for kind, place in program[found]:
            if kind == "read" and place in broken:
                return path, place
    return None


def _present_nodes(program, broken, spared):
    """Return the item that stands for each procedure in the present world.

    The calm rows come first, one for each procedure, and the rows of the present world after them.
    """
    nodes = {}
    for at, name in enumerate(program.names):
        if failure(program, name, broken, spared) is not None:
            nodes[name] = GAP
        else:
            nodes[name] = ("node", at if name in spared else len(program) + at)
    return nodes


def rows_of_all(program, values, nodes):
    """Return a row for each procedure; `nodes` has the item that stands for each of them."""
    return [[_item(kind, word, values, nodes) for kind, word in program[name]] for name in program.names]


def _item(kind, word, values, nodes):
    if kind == "read":
        return "number", values[word]
    if kind == "say":
        return "word", word
    return nodes[word]
