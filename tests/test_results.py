"""Results made from rows, their rows and which are equal: midfall/results.py, points 2, 8 and 9."""

import copy
import itertools
import random
import unittest

from midfall.errors import InvalidResult
from midfall.namesets import NameSet
from midfall.results import Result
from tests.reference import expected_rows, random_rows

LEAVES = [("number", 0), ("number", -7), ("number", 10 ** 60 - 1), ("number", 1 - 10 ** 60), ("word", "a"),
          ("word", "zzzzzzzz"), ("word", "node"), ("gap",)]
NOT_NUMBERS = [10 ** 60, -(10 ** 60), 10 ** 61, 10 ** 5000, -(10 ** 5000), True, False, None, "5", "", b"5", (5,),
               [5], 5.0]
NOT_WORDS = ["", "ninechars", "A", "aB", "a b", " a", "a ", "a1", "1", "-", "@0", "a\n", "\u00e9", "\uff41", None, 1,
             True, b"a", ("a",), ["a"]]
NOT_INDEXES = [-1, -2, 3, 4, 10 ** 30, True, False, None, "0", "", (0,), [0], 0.0]
OTHER_FORMS = [
    (), ("number",), ("word",), ("node",), ("number", 1, 2), ("word", "x", "y"), ("node", 0, 0), ("gap", None),
    ("gap", "gap"), ("gap", 0), ("gap", "x"), (("gap",),), (1, "number"), ("x", "word"), (0, "node"),
    ["number", 1], ["word", "x"], ["node", 0], ["gap"], "gap", "x", "", "node", b"gap", 0, 5, -1, True, None,
    {"number": 1}, {}, NameSet(["gap"]), NameSet(),
] + [(kind, value) for kind in ("", "Number", "numbers", "num", "say", "read", "call", "try", "p", " word", "word ",
                                "@", "-", None, 0, True, b"word", ("word",), ["word"])
     for value in (0, "x")] + [(kind,) for kind in ("", "Gap", "gaps", " gap", None, 0, b"gap")]
WRONG_ITEMS = (
    OTHER_FORMS + [("number", value) for value in NOT_NUMBERS] + [("word", value) for value in NOT_WORDS]
    + [("node", value) for value in NOT_INDEXES]
)


def as_tuples(rows):
    return tuple(tuple(row) for row in rows)


def shuffled(rows, seed):
    """Return the rows in another order, row 0 and the indexes included; row 0 stays first."""
    order = list(range(1, len(rows)))
    random.Random(seed).shuffle(order)
    order = [0] + order
    place = {index: at for at, index in enumerate(order)}
    return [[("node", place[item[1]]) if item[0] == "node" else item for item in rows[index]] for index in order]


def with_copies(rows, seed):
    """Return the rows with a copy of each one; each node points to a row or to its copy."""
    chance = random.Random(seed)
    count = len(rows)

    def pointing(row):
        return [("node", item[1] + chance.choice((0, count))) if item[0] == "node" else item for item in row]

    return [pointing(row) for row in rows] + [pointing(row) for row in rows]


class RowsTest(unittest.TestCase):
    def test_rows_that_are_numbered_already(self):
        for rows in ([[]], [[("gap",)]], [[("node", 0)]], [LEAVES], [[("node", 1), ("node", 2)], [], [("node", 1)]],
                     [[("node", 1), ("node", 0)], [("node", 0), ("number", 5)]]):
            self.assertEqual(Result(rows).rows(), rows)
            self.assertEqual(Result(as_tuples(rows)).rows(), rows)

    def test_kinds_of_the_values(self):
        rows = Result((((("node", 1)), ("word", "x")), ())).rows()
        self.assertEqual(rows, [[("node", 1), ("word", "x")], []])
        self.assertIsInstance(rows, list)
        for row in rows:
            self.assertIsInstance(row, list)
            for item in row:
                self.assertIsInstance(item, tuple)

    def test_by_name(self):
        self.assertEqual(Result(rows=[[("gap",)]]).rows(), [[("gap",)]])

    def test_rows_in_another_order(self):
        rows = [[("node", 3), ("node", 1)], [("number", 1)], [("number", 2), ("node", 1)], [("node", 2)]]
        numbered = [[("node", 1), ("node", 2)], [("node", 3)], [("number", 1)], [("number", 2), ("node", 2)]]
        self.assertEqual(Result(rows).rows(), numbered)
        self.assertEqual(Result(numbered).rows(), numbered)

    def test_rows_that_do_not_occur(self):
        rows = [[("node", 2)], [("number", 1), ("node", 0)], [("gap",)], [("node", 3)]]
        self.assertEqual(Result(rows).rows(), [[("node", 1)], [("gap",)]])

    def test_copies(self):
        rows = [[("node", 1), ("node", 2), ("node", 3)], [("gap",)], [("gap",)], [("gap",), ("gap",)]]
        self.assertEqual(Result(rows).rows(), [[("node", 1), ("node", 1), ("node", 2)], rows[1], rows[3]])

    def test_rings_written_several_times_over(self):
        for length in range(1, 41):
            ring = [[("node", (at + 1) % length), ("word", "x")] for at in range(length)]
            self.assertEqual(Result(ring).rows(), [[("node", 0), ("word", "x")]])
        for length in range(3, 41):
            ring = [[("node", (at + 1) % length), ("number", at % 3)] for at in range(length)]
            once = [[("node", 1), ("number", 0)], [("node", 2), ("number", 1)], [("node", 0), ("number", 2)]]
            self.assertEqual(Result(ring).rows(), ring if length % 3 else once)

    def test_a_ring_and_a_chain_into_it(self):
        rows = [[("node", 1)], [("node", 2)], [("node", 3)], [("node", 2)]]
        self.assertEqual(Result(rows).rows(), [[("node", 0)]])
        self.assertEqual(Result(rows[:3] + [[("gap",)]]).rows(), rows[:3] + [[("gap",)]])

    def test_many_rows_against_the_reading(self):
        for seed in range(1500):
            rows = random_rows(seed, rows=6)
            self.assertEqual(Result(rows).rows(), expected_rows(rows), rows)

    def test_other_numbers_and_copies_give_the_same_rows(self):
        for seed in range(500):
            rows = random_rows(seed, rows=7)
            result = Result(rows)
            for other in (Result(shuffled(rows, seed)), Result(with_copies(rows, seed)), Result(result.rows()),
                          Result(shuffled(with_copies(rows, seed), seed)), Result(rows + rows[:1])):
                self.assertEqual(other.rows(), result.rows())
                self.assertIs(other == result, True)
                self.assertIsNone(result.first_difference(other))

    def test_forty_rows_and_twelve_items(self):
        chain = [[("node", min(at + 1, 39))] for at in range(40)]
        self.assertEqual(Result(chain).rows(), [[("node", 0)]])
        chain[39] = [("word", "end")]
        self.assertEqual(Result(chain).rows(), chain)
        wide = [[("node", index) for index in range(at, at + 12)] for at in range(29)]
        wide += [[("number", at)] for at in range(29, 40)]
        self.assertEqual(Result(wide).rows(), wide)
        for seed in range(5):
            chance = random.Random(seed)
            full = [[chance.choice([("gap",), ("node", chance.randrange(40))]) for _ in range(12)] for _ in range(40)]
            self.assertEqual(Result(full).rows(), expected_rows(full))
            self.assertEqual(Result(shuffled(full, seed)), Result(full))


class FromRowTest(unittest.TestCase):
    def test_the_result_of_each_row(self):
        rows = [[("node", 1), ("word", "x")], [("node", 2)], [("node", 0), ("gap",)]]
        for start in range(3):
            order = [start, *[index for index in range(3) if index != start]]
            place = {index: at for at, index in enumerate(order)}
            turned = [[("node", place[item[1]]) if item[0] == "node" else item for item in rows[index]]
                      for index in order]
            self.assertEqual(Result.from_row(rows, start), Result(turned))

    def test_more_rows_and_longer_numbers_than_may_be_passed(self):
        rows = [[("node", at + 1), ("number", 10 ** 60)] for at in range(99)] + [[]]
        self.assertEqual(Result.from_row(rows, 0).rows(), rows)
        self.assertEqual(len(Result.from_row(rows, 30).rows()), 70)
        self.assertEqual(Result.from_row(rows, 0).at(0).rows(), Result.from_row(rows, 1).rows())


class EqualityTest(unittest.TestCase):
    def test_equal_if_and_only_if_the_rows_are(self):
        results = [Result(random_rows(seed, rows=2, items=2)) for seed in range(120)]
        for one, other in itertools.product(results, repeat=2):
            equal = one.rows() == other.rows()
            self.assertIs(one == other, equal)
            self.assertIs(one != other, not equal)
            self.assertIs(one.first_difference(other) is None, equal)

    def test_items_that_differ(self):
        for one, other in itertools.product(LEAVES + [("node", 0)], repeat=2):
            self.assertIs(Result([[one]]) == Result([[other]]), one == other)
            self.assertIs(Result([[("gap",), one]]) != Result([[("gap",), other]]), one != other)

    def test_number_of_items(self):
        for one, other in itertools.product(range(13), repeat=2):
            for item in (("gap",), ("node", 0), ("number", 1)):
                self.assertIs(Result([[item] * one]) == Result([[item] * other]), one == other)

    def test_no_value_of_another_kind_is_equal(self):
        for rows in ([[]], [[("gap",), ("node", 0)]]):
            result = Result(rows)
            for other in (rows, as_tuples(rows), result.text(), rows[0], len(rows[0]), None, 0, False, True, "", (),
                          NameSet(), {}):
                self.assertIs(result == other, False)
                self.assertIs(other == result, False)
                self.assertIs(result != other, True)
                self.assertIs(other != result, True)

    def test_len(self):
        for count in range(13):
            for item in (("gap",), ("node", 0), ("node", 1)):
                self.assertEqual(len(Result([[item] * count, [("gap",)] * 3])), count)


class CopyTest(unittest.TestCase):
    def test_what_was_passed_stays(self):
        for seed in range(50):
            rows = random_rows(seed)
            before = copy.deepcopy(rows)
            result = Result(rows)
            result.rows(), result.text(), result.first_difference(Result(rows)), result == Result(rows)
            self.assertEqual(rows, before)

    def test_what_was_passed_to_a_refused_result_stays(self):
        rows = [[("node", 1)], [("node", 2)]]
        with self.assertRaises(InvalidResult):
            Result(rows)
        self.assertEqual(rows, [[("node", 1)], [("node", 2)]])

    def test_later_changes_have_no_effect(self):
        rows = [[("node", 1), ("word", "x")], [("node", 0)]]
        result = Result(rows)
        inner = result.at(0)
        for changed in (rows, result.rows(), inner.rows()):
            changed[0][0] = ("gap",)
            changed[1].append(("gap",))
            changed[1] = []
            changed.append([("number", 1)])
        self.assertEqual(result.rows(), [[("node", 1), ("word", "x")], [("node", 0)]])
        self.assertEqual(inner.rows(), [[("node", 1)], [("node", 0), ("word", "x")]])
        self.assertEqual((result.text(), len(result)), ("0: @1 x\n1: @0", 2))
        self.assertIs(result == Result([[("node", 1), ("word", "x")], [("node", 0)]]), True)
        self.assertIsNot(result.rows(), result.rows())

    def test_results_are_separate(self):
        one, other = Result([[("gap",)]]), Result([[]])
        self.assertEqual((one.rows(), other.rows()), ([[("gap",)]], [[]]))


class InvalidTest(unittest.TestCase):
    def assert_invalid(self, rows, line):
        for passed in (rows, as_tuples(rows)):
            before = copy.deepcopy(passed)
            with self.assertRaises(InvalidResult) as context:
                Result(passed)
            self.assertEqual(context.exception.line, line, rows)
            self.assertEqual(passed, before)

    def test_items_of_another_form(self):
        for item in WRONG_ITEMS:
            self.assert_invalid([[item]], 1)
            self.assert_invalid([[("gap",), item, ("gap",)], [("gap", 1)], []], 1)
            self.assert_invalid([[], [("gap",)] * 11 + [item], [()]], 2)
            self.assert_invalid([[("node", 1)], [], [item]], 3)

    def test_rows_that_do_not_occur_are_checked(self):
        for item in WRONG_ITEMS:
            self.assert_invalid([[], [("word", "x")], [item]], 3)

    def test_items_with_the_right_form(self):
        for item in LEAVES:
            self.assertEqual(Result([[item]]).rows(), [[item]])

    def test_indexes_of_rows(self):
        for count in range(1, 41):
            for index in range(count):
                self.assertEqual(Result([[("node", index)]] * count).rows(), [[("node", 0)]])
            for index in (count, count + 1, 40, 41, -1, -count):
                if not 0 <= index < count:
                    self.assert_invalid([[]] * (count - 1) + [[("node", index)]], count)

    def test_digits(self):
        for digits in (1, 2, 59, 60):
            for number in (10 ** digits - 1, -(10 ** digits - 1), 10 ** (digits - 1), -(10 ** (digits - 1))):
                self.assertEqual(Result([[("number", number)]]).rows(), [[("number", number)]])
        for digits in (61, 62, 100, 4299, 4300, 4301, 9999):
            for number in (10 ** (digits - 1), -(10 ** (digits - 1)), 10 ** digits - 1):
                self.assert_invalid([[], [("number", number)]], 2)

    def test_number_of_items(self):
        for item in LEAVES + [("node", 0)]:
            for count in (0, 1, 11, 12):
                self.assertEqual(len(Result([[item] * count])), count)
            for count in (13, 14, 100):
                self.assert_invalid([[item] * count], 1)
                self.assert_invalid([[("node", 1)], [item], [item] * count, [()]], 3)

    def test_number_of_rows(self):
        for count in (1, 39, 40):
            self.assertEqual(Result([[]] * count).rows(), [[]])
        for count in (41, 42, 100):
            self.assert_invalid([[]] * count, 41)
            self.assert_invalid([[("node", 40)]] * 40 + [[()]] * (count - 40), 41)
            self.assert_invalid([[("node", count - 1)]] + [[]] * 38 + [[()]] * (count - 39), 40)
            self.assert_invalid([[("node", count)]] + [[]] * (count - 1), 1)

    def test_no_row(self):
        self.assert_invalid([], 1)

    def test_the_first_wrong_row_counts(self):
        for first, second in itertools.combinations(range(40), 2):
            rows = [[] for _ in range(41)]
            rows[first], rows[second] = [("node", 41)], [("gap",)] * 13
            self.assert_invalid(rows, first + 1)


class InterfaceTest(unittest.TestCase):
    def test_methods_stand_in_the_class(self):
        for method in ("__init__", "parse", "rows", "text", "at", "first_difference", "__eq__", "__len__"):
            self.assertIn(method, vars(Result))
        self.assertEqual(Result.__module__, "midfall.results")
        self.assertIsInstance(vars(Result)["parse"], classmethod)


if __name__ == "__main__":
    unittest.main()
