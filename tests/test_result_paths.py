"""Paths in results: at and first_difference, point 10."""

import itertools
import unittest

from midfall.errors import NoItem
from midfall.results import Result
from tests.reference import expected_difference, expected_rows, random_rows

ROWS = [[("node", 1), ("word", "x"), ("gap",)], [("node", 0), ("number", -5), ("node", 2)], []]


def expected_at(rows, path):
    """Return the item at the path, a node as its rows; or the length of the path up to where no item is."""
    item = ("node", 0)
    for depth, index in enumerate(path, start=1):
        if item[0] != "node" or index not in range(len(rows[item[1]])):
            return depth
        item = rows[item[1]][index]
    return rows_from(rows, item[1]) if item[0] == "node" else item


def rows_from(rows, start):
    """Return rows of the result of another row: a new row 0 that is a copy of it."""
    moved = [[("node", item[1] + 1) if item[0] == "node" else item for item in row] for row in [rows[start]] + rows]
    return expected_rows(moved)


class AtTest(unittest.TestCase):
    def assert_no_item(self, result, path, length):
        with self.assertRaises(NoItem) as context:
            result.at(*path)
        self.assertIsInstance(context.exception.path, tuple)
        self.assertEqual(context.exception.path, tuple(path[:length]))

    def test_items(self):
        result = Result(ROWS)
        self.assertEqual(result.at(1), ("word", "x"))
        self.assertEqual(result.at(2), ("gap",))
        self.assertEqual(result.at(0, 1), ("number", -5))
        self.assertEqual(result.at(0, 0, 0, 0, 1), ("word", "x"))
        self.assertEqual(result.at(*[0] * 1000, 1), ("word", "x"))
        for path in ((1,), (2,), (0, 1)):
            self.assertIsInstance(result.at(*path), tuple)

    def test_nodes(self):
        result = Result(ROWS)
        self.assertIsInstance(result.at(0), Result)
        self.assertEqual(result.at(0).rows(), [[("node", 1), ("number", -5), ("node", 2)],
                                               [("node", 0), ("word", "x"), ("gap",)], []])
        self.assertEqual(result.at(0, 0), result)
        self.assertEqual(result.at(0, 2).rows(), [[]])
        self.assertEqual(len(result.at(0, 2)), 0)
        self.assertEqual(result.at(0).text(), "0: @1 -5 @2\n1: @0 x -\n2:")

    def test_the_result_itself(self):
        for rows in (ROWS, [[]], [[("node", 0)]]):
            result = Result(rows)
            self.assertIs(result.at(), result)
            self.assertEqual(result.at().rows(), rows)

    def test_no_item(self):
        result = Result(ROWS)
        for path, length in (
            ((3,), 1), ((-1,), 1), ((-3,), 1), ((10 ** 70,), 1), ((-(10 ** 70), 0), 1), ((3, 0, 0), 1), ((-1, 0), 1),
            ((0, 3), 2), ((0, -1), 2), ((1, 0), 2), ((1, -1), 2), ((2, 0, 5), 2), ((1, 7, 7), 2), ((0, 1, 0, 0), 3),
            ((0, 2, 0), 3), ((0, 2, -1), 3), ((0, 2, 1, 1), 3), ((0, 0, 0, 0, 3, 0), 5),
        ):
            self.assert_no_item(result, path, length)
        self.assert_no_item(Result([[]]), (0,), 1)
        self.assert_no_item(Result([[("node", 0)]]), (0, 0, 0, 1, 0), 4)
        self.assertEqual(result.rows(), ROWS)

    def test_many_results(self):
        for seed in range(250):
            rows = random_rows(seed, rows=3)
            result = Result(rows)
            for length in range(1, 4):
                for path in itertools.product(range(-1, 4), repeat=length):
                    expected = expected_at(rows, path)
                    if isinstance(expected, int):
                        self.assert_no_item(result, path, expected)
                    elif isinstance(expected, tuple):
                        self.assertEqual(result.at(*path), expected)
                    else:
                        self.assertEqual(result.at(*path).rows(), expected)


class FirstDifferenceTest(unittest.TestCase):
    def assert_difference(self, one, other, path):
        one, other = Result.parse(one), Result.parse(other)
        for left, right in ((one, other), (other, one)):
            found = left.first_difference(right)
            self.assertEqual(found, path)
            if path is not None:
                self.assertIsInstance(found, tuple)
            self.assertIs(left == right, path is None)
            self.assertIs(left != right, path is not None)

    def test_equal_results(self):
        for one, other in (("0:", "0:"), ("0: @0", "0: @1\n1: @2\n2: @0"), ("0: -", "0: -\n1: x"),
                           ("0: @1 x\n1: 5", "0: @2 x\n1:\n2: 5"), ("0: @1 @1\n1:", "0: @1 @2\n1:\n2:")):
            self.assert_difference(one, other, None)

    def test_items_that_differ(self):
        for one, other in itertools.combinations(("-", "0", "1", "-1", "a", "b", "@0"), 2):
            self.assert_difference(f"0: {one}", f"0: {other}", (0,))
            self.assert_difference(f"0: x x {one} x", f"0: x x {other} y", (2,))
        self.assert_difference("0: @0\n1:", "0: @1\n1:", (0, 0))

    def test_only_one_has_an_item(self):
        self.assert_difference("0:", "0: x", (0,))
        self.assert_difference("0: x", "0: x @0", (1,))
        self.assert_difference("0: - - -", "0: - - - - -", (3,))
        self.assert_difference("0: @1\n1:", "0: @1\n1: -", (0, 0))
        self.assert_difference("0:" + " x" * 11, "0:" + " x" * 12, (11,))

    def test_the_shortest_path_counts(self):
        self.assert_difference("0: @1 5\n1: -", "0: @1 6\n1: - 7", (1,))
        self.assert_difference("0: @1 @2\n1: @3\n2: a\n3: a", "0: @1 @2\n1: @3\n2: b\n3: b", (1, 0))
        self.assert_difference("0: @1 @1 x\n1: a", "0: @1 @1 y\n1: b", (2,))

    def test_the_least_one_of_the_shortest_counts(self):
        self.assert_difference("0: @1 @2\n1: x a\n2: a", "0: @1 @2\n1: x b\n2: b", (0, 1))
        self.assert_difference("0: a a a", "0: b b b", (0,))
        self.assert_difference("0: x @1 @1\n1: @2 @2\n2: x a", "0: x @1 @1\n1: @2 @2\n2: x b", (1, 0, 1))
        self.assert_difference("0: @1 @2\n1: @2\n2: @1 x", "0: @1 @2\n1: @2\n2: @1 y", (1, 1))

    def test_infinite_results(self):
        self.assert_difference("0: @0", "0: @0 x", (1,))
        self.assert_difference("0: @1\n1: @2\n2: @0 x", "0: @1\n1: @2\n2: @3 x\n3: @0", (0, 0, 0, 0, 0, 1))
        self.assert_difference("0: @0 a", "0: @1 a\n1: @0 b", (0, 1))

    def test_rings_of_different_lengths(self):
        for one, other in itertools.combinations(range(1, 9), 2):
            path = self.ring(one).first_difference(self.ring(other))
            self.assertEqual(path, expected_difference(self.ring(one).rows(), self.ring(other).rows()))
            self.assertEqual(path, (0,) * one + (1,))

    def ring(self, length):
        """Return a ring of nodes of which one has a gap behind its node."""
        return Result([[("node", 1 % length), ("gap",)]] + [[("node", (at + 1) % length)] for at in range(1, length)])

    def test_long_chains(self):
        chain = [[("node", at + 1), ("gap",)] for at in range(39)]
        one, other = Result(chain + [[("word", "x")]]), Result(chain + [[("word", "y")]])
        self.assertEqual(one.first_difference(other), (0,) * 40)
        self.assertEqual(other.first_difference(one), (0,) * 40)
        self.assertEqual(one.first_difference(one.at(0)), (0,) * 39)

    def test_many_results(self):
        for seed in range(0, 3000, 2):
            rows, others = random_rows(seed, rows=3), random_rows(seed + 1, rows=3)
            one, other = Result(rows), Result(others)
            expected = expected_difference(rows, others)
            self.assertEqual(one.first_difference(other), expected)
            self.assertEqual(other.first_difference(one), expected)
            self.assertIs(one == other, expected is None)

    def test_the_items_at_the_path_differ(self):
        for seed in range(0, 1000, 2):
            one, other = Result(random_rows(seed)), Result(random_rows(seed + 1))
            path = one.first_difference(other)
            if path is not None:
                self.assertNotEqual(self.item(one, path), self.item(other, path))

    def item(self, result, path):
        try:
            found = result.at(*path)
        except NoItem as error:
            self.assertEqual(error.path, path)
            return None
        return "node" if isinstance(found, Result) else found


if __name__ == "__main__":
    unittest.main()
