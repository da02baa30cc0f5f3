"""Nodes: what calls make, and what can be reached from it."""

from midfall.rows import GAP


class Node:
    """The items of a call so far, and whether the call has completed."""

    def __init__(self):
        self.row = []
        self.completed = False


def numbered_nodes(start):
    """Return a dict from the nodes that can be reached from a node, itself first, to their numbers."""
    numbers = {start: 0}
    found = [start]
    at = 0
    while at < len(found):
        node = found[at]
        for item in node.row:
            if item[0] == "node" and item[1] not in numbers:
                numbers[item[1]] = len(found)
                found.append(item[1])
        at += 1
    return numbers


def is_sound(start):
    """Tell whether all that can be reached from a node has completed and has no gap."""
    return all([node.completed and GAP not in node.row for node in numbered_nodes(start)])


def rows_from(start):
    """Return rows that describe the result of a node; they are not numbered as those of a Result are."""
    numbers = numbered_nodes(start)
    return [[_pointing_item(item, numbers) for item in node.row] for node in numbers]


def _pointing_item(item, numbers):
    return ("node", numbers[item[1]]) if item[0] == "node" else item
