"""Histories as they are made and joined: midfall/histories.py, point 28."""

import itertools
import unittest

from midfall.errors import InvalidHistory
from midfall.histories import History
from midfall.namesets import NameSet

LARGEST = 10 ** 60 - 1
EVENTS = [("run", "p", ("d", "e")), ("set", "d", -5), ("run", "w", ())]
WRONG_EVENTS = [
    (), ("run",), ("run", "p"), ("run", "p", (), ()), ("set", "d"), ("set", "d", 1, 2), ("run", "p", (), "d"),
    ("play", "p", 1), ("", "d", 1), ("SET", "d", 1), (None, "d", 1), ("broken", "d", ("e",)), (("set",), "d", 1),
    ("play", "p", ()), ("", "p", ()), ("Run", "p", ()), ("run ", "p", ()), (None, "p", ()), (1, "p", ()),
    ("run", "p", None), ("run", "p", 1), ("run", "p", "d"), ("run", "p", "de"), ("run", "p", {"d": 1}),
    ("set", "d", ()), ("set", "d", None), ("set", "d", "1"), ("set", "d", [1]),
    ("set", "d", True), ("set", "d", False), ("set", "d", LARGEST + 1), ("set", "d", -LARGEST - 1),
    ("set", "d", 10 ** 60), ("set", "d", 10 ** 5000),
    ("set", "p", ("d",)), ("run", "p", 5),
    ["run", "p", ()], ["set", "d", 1], "run p", "run", None, 0, NameSet(["p"]), {"run": "p"},
]
WRONG_NAMES = ["", "P", "ninechars", "a b", "a1", "p ", " p", "p\n", "\u00e9", "broken ", "-", "run,", None, 5, True,
               b"p", ("p",), ["p"]]


class MakingTest(unittest.TestCase):
    def test_events_of_both_forms(self):
        for kind in (list, tuple):
            history = History(kind(EVENTS))
            self.assertEqual(history.events, tuple(EVENTS))
            self.assertIsInstance(history.events, tuple)
            self.assertEqual(len(history), 3)
        self.assertEqual(History(events=EVENTS[:1]).events, tuple(EVENTS[:1]))
        self.assertEqual(History.__module__, "midfall.histories")

    def test_the_empty_history(self):
        for history in (History(), History([]), History(()), History.parse("")):
            self.assertEqual((history.events, history.text(), len(history)), ((), "", 0))

    def test_places_in_any_order_with_duplicates(self):
        for places in itertools.permutations(["d", "e", "c", "d"]):
            for kind in (list, tuple, NameSet):
                events = History([("run", "p", kind(places)), ("run", "q", kind(()))]).events
                self.assertEqual(events, (("run", "p", ("c", "d", "e")), ("run", "q", ())))
                self.assertIsInstance(events[0][2], tuple)

    def test_numbers(self):
        for number in (0, 1, -1, -5, LARGEST, -LARGEST, 10 ** 59):
            self.assertEqual(History([("set", "d", number)]).events, (("set", "d", number),))

    def test_names_like_the_words_of_the_text(self):
        events = (("run", "run", ("broken", "set")), ("set", "set", 1), ("run", "broken", ()))
        self.assertEqual(History(events).events, events)

    def test_unknown_names_are_not_looked_up(self):
        self.assertEqual(len(History([("run", "zz", ["yy"]), ("set", "xx", 3)])), 2)

    def test_what_was_passed_stays_and_later_changes_do_nothing(self):
        places = ["e", "d", "e"]
        events = [("run", "p", places), ("set", "d", 1)]
        history = History(events)
        self.assertEqual((places, events), (["e", "d", "e"], [("run", "p", places), ("set", "d", 1)]))
        places.append("f")
        events.clear()
        self.assertEqual(history.events, (("run", "p", ("d", "e")), ("set", "d", 1)))


class InvalidTest(unittest.TestCase):
    def assert_invalid(self, events, line):
        for given in (list(events), tuple(events)):
            with self.assertRaises(InvalidHistory) as context:
                History(given)
            self.assertEqual(vars(context.exception), {"line": line})

    def assert_wrong(self, event):
        """The event is wrong in each place, also if wrong ones follow."""
        self.assert_invalid([event], 1)
        self.assert_invalid(EVENTS + [event], 4)
        self.assert_invalid(EVENTS[:1] + [event, (), event], 2)

    def test_other_forms(self):
        for at, event in enumerate(WRONG_EVENTS):
            with self.subTest(at=at):
                self.assert_wrong(event)

    def test_what_is_not_a_name(self):
        for name in WRONG_NAMES:
            with self.subTest(name=name):
                self.assert_wrong(("run", name, ()))
                self.assert_wrong(("set", name, 1))
                for places in ([name], ("d", name), [name, "d", "e"]):
                    self.assert_wrong(("run", "p", places))
        for name in ("", "P", "ninechars"):
            self.assert_wrong(("run", "p", NameSet(["d", name])))

    def test_the_number_of_events(self):
        events = EVENTS * 67
        for count in (1, 199, 200):
            self.assertEqual(len(History(events[:count])), count)
        self.assert_invalid(events, 201)
        self.assert_invalid(events * 2, 201)
        self.assert_invalid(events[:200] + [()], 201)
        self.assert_invalid(events[:199] + [()] + events, 200)


class OperatorsTest(unittest.TestCase):
    def test_addition(self):
        for first in range(4):
            for second in range(4):
                one, other = History(EVENTS[:first]), History(EVENTS[second:])
                joined = one + other
                self.assertIsInstance(joined, History)
                self.assertEqual(joined.events, tuple(EVENTS[:first] + EVENTS[second:]))
                self.assertEqual(joined, History(EVENTS[:first] + EVENTS[second:]))
                self.assertEqual((one.events, other.events), (tuple(EVENTS[:first]), tuple(EVENTS[second:])))

    def test_addition_beyond_200_events(self):
        many = History(EVENTS * 66)
        joined = many + many + History(EVENTS)
        self.assertEqual((len(joined), joined.events), (399, tuple(EVENTS * 133)))
        self.assertEqual(joined.text(), "\n".join(["run p broken d e\nset d -5\nrun w"] * 133))
        self.assertEqual(joined, many + (many + History(EVENTS)))
        self.assertEqual(len(joined + joined), 798)
        with self.assertRaises(InvalidHistory) as context:
            History.parse(joined.text())
        self.assertEqual(context.exception.line, 201)

    def test_equality(self):
        histories = [History(), *[History([event]) for event in EVENTS], History(EVENTS), History(EVENTS[::-1]),
                     History([("set", "d", 5)]), History([("set", "e", -5)]), History([("run", "d", ())])]
        for one, first in enumerate(histories):
            for other, second in enumerate(histories):
                self.assertIs(first == second, one == other)
                self.assertIs(first != second, one != other)
        self.assertTrue(History([("run", "p", ["e", "d", "e"])]) == History(EVENTS[:1]))
        self.assertFalse(History([("run", "p", NameSet(["e", "d"]))]) != History(EVENTS[:1]))

    def test_other_kinds_of_values(self):
        for value in (None, (), tuple(EVENTS), EVENTS, "", 0, History(EVENTS).text()):
            for history in (History(), History(EVENTS)):
                self.assertFalse(history == value)
                self.assertTrue(history != value)

    def test_length(self):
        for count in range(4):
            self.assertEqual(len(History(EVENTS[:count])), count)


if __name__ == "__main__":
    unittest.main()
