"""The rows that describe a result: their form, their numbers, their differences and their text."""

from midfall.errors import InvalidResult
from midfall.names import is_name
from midfall.numerals import is_integer, is_number, is_numeral

MOST_ROWS = 40
MOST_ITEMS = 12
GAP = ("gap",)
# These stand for an item where there is none: no item has such a form.
MISSING = ("missing",)
MALFORMED = ("malformed",)


def check_rows(rows):
    """Raise InvalidResult for the first row that is not valid."""
    for line, row in enumerate(rows, start=1):
        if line > MOST_ROWS or not _is_row(row, len(rows)):
            raise InvalidResult(line)
    if len(rows) == 0:
        raise InvalidResult(1)


def _is_row(row, count):
    return len(row) <= MOST_ITEMS and all([_is_item(item, count) for item in row])


def _is_item(item, count):
    if not isinstance(item, tuple):
        return False
    if len(item) != 2:
        return item == GAP
    kind, value = item
    if kind == "number":
        return is_number(value)
    if kind == "word":
        return is_name(value)
    return kind == "node" and is_integer(value) and 0 <= value < count


def numbered_rows(rows, start):
    """Return the rows of the result of row `start`: each different one once, in the order of their occurrence."""
    classes = _classes(rows)
    numbers = {classes[start]: 0}
    found = [start]
    at = 0
    while at < len(found):
        row = rows[found[at]]
        for index in _node_indexes(row):
            if classes[index] not in numbers:
                numbers[classes[index]] = len(found)
                found.append(index)
        at += 1
    # The rows that do not occur have no number, and no row that is found points to them.
    renumbered = [numbers.get(number) for number in classes]
    return [_pointing_row(rows[index], renumbered) for index in found]


def _node_indexes(row):
    return [item[1] for item in row if item[0] == "node"]


def _classes(rows):
    """Return a number for each row; rows have the same one if and only if their results are equal."""
    classes = [0] * len(rows)
    finer = _finer_classes(rows, classes)
    # Each round parts rows that differ one item further down; a round that parts none ends it.
    while finer != classes:
        classes = finer
        finer = _finer_classes(rows, classes)
    return classes


def _finer_classes(rows, classes):
    numbers = {}
    finer = []
    for row in rows:
        key = tuple(_pointing_row(row, classes))
        if key not in numbers:
            numbers[key] = len(numbers)
        finer.append(numbers[key])
    return finer


def _pointing_row(row, targets):
    """Return the row with another number for each node: the one that `targets` has for its index."""
    return [("node", targets[item[1]]) if item[0] == "node" else item for item in row]


def difference_path(rows, others, start=0, other_start=0):
    """Return the first path at which the results of a row and of another list's row differ, or None."""
    paths = {(start, other_start): ()}
    pairs = [(start, other_start)]
    at = 0
    while at < len(pairs):
        row, other = rows[pairs[at][0]], others[pairs[at][1]]
        for index in range(max(len(row), len(other))):
            path = paths[pairs[at]] + (index,)
            item, opposite = _item_at(row, index), _item_at(other, index)
            if item[0] == "node" and opposite[0] == "node":
                pair = (item[1], opposite[1])
                if pair not in paths:
                    paths[pair] = path
                    pairs.append(pair)
            elif item != opposite:
                return path
        at += 1
    return None


def _item_at(row, index):
    return row[index] if index < len(row) else MISSING


def row_text(index, row):
    """Return the line of a row."""
    return " ".join([f"{index}:"] + [_item_text(item) for item in row])


def _item_text(item):
    if item == GAP:
        return "-"
    kind, value = item
    return f"@{value}" if kind == "node" else f"{value}"


def parsed_row(index, line):
    """Return the row of a line; it has an item of another form if the line has another form."""
    head, *words = line.split(" ")
    if head != f"{index}:":
        return [MALFORMED]
    return [_parsed_item(word) for word in words]


def _parsed_item(word):
    if word == "-":
        return GAP
    if word.startswith("@") and is_numeral(word[1:]):
        return "node", int(word[1:])
    if is_numeral(word):
        return "number", int(word)
    return "word", word
