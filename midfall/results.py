"""Results: trees of items, also infinite ones, and the text of a result."""

from midfall.errors import NoItem
from midfall.rows import check_rows, difference_path, numbered_rows, parsed_row, row_text


class Result:
    """The result that rows describe; it does not change after it is made."""

    def __init__(self, rows):
        check_rows(rows)
        self._rows = numbered_rows(rows, 0)

    @classmethod
    def parse(cls, text):
        """Return the result that has the text."""
        return cls([parsed_row(index, line) for index, line in enumerate(text.split("\n"))])

    @classmethod
    def from_row(cls, rows, start):
        """Return the result of row `start`; nothing is checked, so there may be any number of rows."""
        result = cls([[]])
        result._rows = numbered_rows(rows, start)
        return result

    def rows(self):
        """Return the rows of the result."""
        return [list(row) for row in self._rows]

    def text(self):
        """Return the text of the result."""
        return "\n".join([row_text(index, row) for index, row in enumerate(self._rows)])

    def at(self, *path):
        """Return the item at the path: a Result if it is a node, otherwise a tuple."""
        if not path:
            return self
        item = ("node", 0)
        for depth, index in enumerate(path, start=1):
            row = self._rows[item[1]] if item[0] == "node" else []
            if not 0 <= index < len(row):
                raise NoItem(path[:depth])
            item = row[index]
        return Result.from_row(self._rows, item[1]) if item[0] == "node" else item

    def first_difference(self, other):
        """Return the first path at which two results differ, or None if they are equal."""
        return difference_path(self._rows, other._rows)

    def __eq__(self, other):
        return isinstance(other, Result) and self._rows == other._rows

    def __len__(self):
        return len(self._rows[0])
