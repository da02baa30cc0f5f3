"""Evaluators as they are made, asked and changed: midfall/evaluators.py, points 14, 18 and 19."""

import itertools
import unittest

from midfall.errors import CallFailed, NotCached, UnknownPlace, UnknownProcedure
from midfall.evaluators import Evaluator
from midfall.namesets import NameSet
from midfall.policies import CarefulPolicy, EagerPolicy, TrailPolicy
from midfall.programs import Program
from midfall.results import Result

PROGRAM = Program.parse("p: try f, call g\nf: read d, read c\ng: read e, say x\nh: call h")
RING = Program.parse("p: call w, try z, try y\nw: call p\nz: read d\ny: read e")


def unsound_evaluator(*broken):
    """Return an evaluator of which `w` alone is cached, and is not sound."""
    evaluator = Evaluator(RING, policy=EagerPolicy())
    evaluator.run("p", broken=broken)
    return evaluator


class ErrorCase(unittest.TestCase):
    def assert_error(self, expected, function, *arguments, **options):
        with self.assertRaises(type(expected)) as context:
            function(*arguments, **options)
        self.assertIs(type(context.exception), type(expected))
        self.assertEqual(vars(context.exception), vars(expected))


class MakingTest(ErrorCase):
    def test_a_new_evaluator(self):
        evaluator = Evaluator(PROGRAM)
        self.assertEqual(evaluator.program, PROGRAM)
        self.assertEqual(evaluator.policy, CarefulPolicy())
        self.assertEqual([evaluator[place] for place in "cde"], [0, 0, 0])
        self.assertIsInstance(evaluator.cached, NameSet)
        self.assertEqual((evaluator.cached.members, len(evaluator)), ((), 0))
        self.assertEqual((evaluator.readings, evaluator.calm), ((), True))
        self.assertEqual(evaluator.wrong(), NameSet())
        self.assertEqual(Evaluator.__module__, "midfall.evaluators")

    def test_policies(self):
        self.assertEqual(Evaluator(PROGRAM, policy=None).policy, CarefulPolicy())
        for policy in (CarefulPolicy(), TrailPolicy(), EagerPolicy(), EagerPolicy(["p", "f"])):
            self.assertEqual(Evaluator(PROGRAM, policy=policy).policy, policy)

    def test_numbers(self):
        evaluator = Evaluator(PROGRAM, numbers={"e": -3, "c": 10 ** 60 - 1})
        self.assertEqual([evaluator[place] for place in "cde"], [10 ** 60 - 1, 0, -3])
        for numbers in (None, {}):
            self.assertEqual(Evaluator(PROGRAM, numbers=numbers)["e"], 0)

    def test_the_dict_of_numbers_stays_and_may_change_later(self):
        numbers = {"e": 5, "c": 1}
        evaluator = Evaluator(PROGRAM, numbers=numbers)
        evaluator["e"] = 6
        self.assertEqual(list(numbers.items()), [("e", 5), ("c", 1)])
        numbers["c"] = 9
        numbers.clear()
        self.assertEqual([evaluator[place] for place in "cde"], [1, 0, 6])
        self.assertEqual(Evaluator(PROGRAM)["c"], 0)

    def test_unknown_marks_come_first(self):
        for marks in itertools.permutations(["p", "zz", "d", "e"]):
            self.assert_error(UnknownProcedure("d"), Evaluator, PROGRAM, policy=EagerPolicy(marks), numbers={"a": 1})
        self.assert_error(UnknownProcedure(""), Evaluator, PROGRAM, policy=EagerPolicy(["B", "", "p"]))

    def test_unknown_places(self):
        for keys in itertools.permutations(["c", "zz", "p", "x"]):
            self.assert_error(UnknownPlace("p"), Evaluator, PROGRAM, numbers=dict.fromkeys(keys, 0))

    def test_keywords(self):
        with self.assertRaises(TypeError):
            Evaluator(PROGRAM, CarefulPolicy())
        self.assertEqual(Evaluator(program=PROGRAM), Evaluator(PROGRAM))

    def test_it_is_not_iterated_over(self):
        with self.assertRaises(TypeError):
            iter(Evaluator(PROGRAM))


class PolicyTest(ErrorCase):
    def test_assigning_and_use_keep_the_cache(self):
        evaluator = Evaluator(PROGRAM)
        evaluator.run("p", broken=["d"])
        for policy in (TrailPolicy(), EagerPolicy(["g"]), CarefulPolicy(), EagerPolicy()):
            before = evaluator.copy()
            evaluator.policy = policy
            before.use(policy)
            for changed in (evaluator, before):
                self.assertEqual(changed.policy, policy)
                self.assertEqual(changed.cached.members, ("g",))
                self.assertEqual((changed.readings, changed.calm), ((("f", "d"),), False))

    def test_the_new_policy_counts_from_then_on(self):
        evaluator = Evaluator(PROGRAM)
        evaluator.policy = EagerPolicy()
        evaluator.run("p", broken=["d"])
        self.assertEqual(evaluator.cached.members, ())
        evaluator.use(CarefulPolicy())
        evaluator.run("p", broken=["d"])
        self.assertEqual(evaluator.cached.members, ("g",))

    def test_unknown_marks(self):
        evaluator = Evaluator(PROGRAM, policy=TrailPolicy())
        with self.assertRaises(UnknownProcedure) as context:
            evaluator.policy = EagerPolicy(["zz", "p", "e"])
        self.assertEqual(context.exception.name, "e")
        self.assert_error(UnknownProcedure("d"), evaluator.use, EagerPolicy(["q", "d"]))
        self.assertEqual(evaluator.policy, TrailPolicy())
        self.assertIs(type(Evaluator.policy), property)


class CacheTest(ErrorCase):
    def test_cached_in_and_len(self):
        evaluator = Evaluator(PROGRAM)
        evaluator.run("p")
        evaluator.run("h")
        self.assertEqual(evaluator.cached.members, ("f", "g", "h", "p"))
        self.assertEqual(len(evaluator), 4)
        for name in PROGRAM.names:
            self.assertTrue(name in evaluator)
        evaluator["d"] = 1
        self.assertEqual((evaluator.cached.members, len(evaluator)), (("g", "h"), 2))
        for name in ("p", "f", "d", "x", "", "zz", "ninechars", "P"):
            self.assertFalse(name in evaluator)
            self.assertTrue(name not in evaluator)
        self.assertIs(type(Evaluator.cached), property)

    def test_cached_is_no_view(self):
        evaluator = Evaluator(PROGRAM)
        before = evaluator.cached
        evaluator.run("g")
        self.assertEqual((before.members, evaluator.cached.members), ((), ("g",)))

    def test_peek(self):
        evaluator = Evaluator(PROGRAM, numbers={"e": 7, "c": 2})
        result = evaluator.run("p")
        self.assertIsInstance(evaluator.peek("p"), Result)
        self.assertEqual(evaluator.peek("p"), result)
        self.assertEqual(evaluator.peek("g").rows(), [[("number", 7), ("word", "x")]])
        self.assertEqual(evaluator.peek("f").text(), "0: 0 2")
        self.assert_error(NotCached("h"), evaluator.peek, "h")
        for name in ("zz", "d", "x", "", "P"):
            self.assert_error(UnknownProcedure(name), evaluator.peek, name)
        evaluator["e"] = 8
        self.assert_error(NotCached("g"), evaluator.peek, "g")
        self.assertEqual((evaluator.readings, evaluator.cached.members), ((("f", "d"), ("f", "c"), ("g", "e")), ("f",)))

    def test_peek_of_a_node_that_is_not_sound(self):
        self.assertEqual(unsound_evaluator("d").peek("w").rows(),
                         [[("node", 1)], [("node", 0), ("gap",), ("node", 2)], [("number", 0)]])


class NumberTest(ErrorCase):
    def test_each_procedure_that_reaches_a_reader_is_removed(self):
        removed = {"c": ("f", "p"), "d": ("f", "p"), "e": ("g", "p")}
        for place, names in removed.items():
            evaluator = Evaluator(PROGRAM, policy=TrailPolicy(), numbers={"e": 7})
            evaluator.run("p")
            evaluator.run("h")
            evaluator[place] = 1
            self.assertEqual(evaluator.cached, NameSet(PROGRAM.names) - NameSet(names))
            self.assertEqual(evaluator[place], 1)
            self.assertEqual(evaluator.run("p"), Evaluator(PROGRAM, numbers={"e": 7, place: 1}).run("p"))

    def test_the_number_that_it_has_changes_nothing(self):
        evaluator = Evaluator(PROGRAM, numbers={"e": -7})
        evaluator.run("p")
        before = evaluator.copy()
        for place, number in (("c", 0), ("d", 0), ("e", -7)):
            evaluator[place] = number
        self.assertEqual(evaluator, before)
        self.assertEqual(len(evaluator), 3)

    def test_a_number_that_was_there_before_removes_again(self):
        evaluator = Evaluator(PROGRAM)
        for number in (1, 0, 1):
            evaluator.run("g")
            evaluator["e"] = number
            self.assertEqual((evaluator.cached.members, evaluator["e"]), ((), number))

    def test_numbers_of_sixty_digits_and_more(self):
        evaluator = Evaluator(PROGRAM)
        for number in (10 ** 60 - 1, 1 - 10 ** 60, 10 ** 61, -5):
            evaluator["e"] = number
            self.assertEqual(evaluator["e"], number)
            self.assertEqual(evaluator("g").rows(), [[("number", number), ("word", "x")]])

    def test_readings_and_calm_stay(self):
        evaluator = Evaluator(PROGRAM)
        evaluator.run("p", broken=["d"])
        evaluator["d"] = 4
        self.assertEqual((evaluator.readings, evaluator.calm), ((("f", "d"),), False))

    def test_rings_and_procedures_that_try(self):
        evaluator = Evaluator(RING, policy=EagerPolicy())
        evaluator.run("p")
        evaluator["e"] = 1
        self.assertEqual(evaluator.cached.members, ("z",))
        names = [chr(ord("a") + number) for number in range(16)]
        ring = Program([(name, [("try", after), ("read", f"d{name}")])
                        for name, after in zip(names, names[1:] + ["a"])])
        evaluator = Evaluator(ring)
        evaluator.run("c")
        self.assertEqual(len(evaluator), 16)
        evaluator["dh"] = 1
        self.assertEqual(len(evaluator), 0)

    def test_unknown_places(self):
        evaluator = Evaluator(PROGRAM)
        evaluator.run("p")
        before = evaluator.copy()
        for place in ("p", "x", "zz", "", "D", "ninechars"):
            self.assert_error(UnknownPlace(place), lambda: evaluator[place])
            with self.assertRaises(UnknownPlace) as context:
                evaluator[place] = 3
            self.assertEqual(context.exception.place, place)
        self.assertEqual(evaluator, before)
        self.assert_error(UnknownPlace("d"), lambda: Evaluator(Program.parse("d: say d"))["d"])


class WrongTest(unittest.TestCase):
    def test_those_that_reach_a_node_that_is_not_sound(self):
        program = Program.parse("a: try b\nb: say x\nc: call w\nd: try c, read d\n" + RING.text())
        evaluator = Evaluator(program, policy=EagerPolicy())
        evaluator.run("p", broken=["d"])
        self.assertIsInstance(evaluator.wrong(), NameSet)
        self.assertEqual(evaluator.wrong().members, ("c", "d", "p", "w"))
        self.assertEqual(evaluator.cached.members, ("w",))
        evaluator["e"] = 1
        self.assertEqual(evaluator.wrong().members, ())

    def test_nothing_wrong(self):
        for policy in (CarefulPolicy(), TrailPolicy(), EagerPolicy(["w"])):
            evaluator = Evaluator(RING, policy=policy)
            evaluator.run("p", broken=["d"])
            self.assertEqual(evaluator.wrong().members, ())
            evaluator.run("p")
            self.assertEqual((evaluator.wrong().members, len(evaluator)), ((), 4))


class CopyTest(unittest.TestCase):
    def test_the_same_state(self):
        evaluator = Evaluator(RING, policy=EagerPolicy(["z"]), numbers={"e": 3})
        evaluator.run("p", broken=["d"])
        other = evaluator.copy()
        self.assertIsInstance(other, Evaluator)
        self.assertEqual(other, evaluator)
        self.assertEqual((other.readings, other.calm), ((("z", "d"),), False))
        self.assertEqual((other.program, other.policy, other["e"]), (RING, EagerPolicy(["z"]), 3))
        self.assertEqual((other.cached.members, other.wrong().members), (("w",), ("p", "w")))

    def test_later_changes_of_one(self):
        changes = [
            lambda one: one.run("z"),
            lambda one: one.run("p", broken=["e"]),
            lambda one: one.use(TrailPolicy()),
            lambda one: one.__setitem__("e", 9),
            lambda one: one.__setitem__("d", 9),
        ]
        for change in changes:
            for first in (True, False):
                evaluator = unsound_evaluator("d")
                evaluator.run("y")
                copied = evaluator.copy()
                changed, kept = (evaluator, copied) if first else (copied, evaluator)
                change(changed)
                self.assertNotEqual(changed, kept)
                self.assertEqual((kept.readings, kept.calm, kept.policy), ((("y", "e"),), True, EagerPolicy()))
                self.assertEqual((kept.cached.members, kept["d"], kept["e"]), (("w", "y"), 0, 0))
                self.assertEqual(kept.peek("w").text(), "0: @1\n1: @0 - @2\n2: 0")

    def test_a_copy_of_a_new_one(self):
        other = Evaluator(RING).copy()
        self.assertEqual((other.readings, other.calm, len(other)), ((), True, 0))


class EqualityTest(unittest.TestCase):
    def assert_equal(self, one, other, expected):
        for left, right in ((one, other), (other, one)):
            self.assertIs(left == right, expected)
            self.assertIs(left != right, not expected)

    def test_program_policy_and_numbers(self):
        self.assert_equal(Evaluator(RING), Evaluator(Program.parse(RING.text()), policy=CarefulPolicy()), True)
        self.assert_equal(Evaluator(RING), Evaluator(PROGRAM), False)
        self.assert_equal(Evaluator(RING), Evaluator(RING, policy=TrailPolicy()), False)
        self.assert_equal(Evaluator(RING, policy=EagerPolicy(["p"])), Evaluator(RING, policy=EagerPolicy(["w"])), False)
        self.assert_equal(Evaluator(RING, numbers={"d": 0}), Evaluator(RING), True)
        self.assert_equal(Evaluator(RING, numbers={"d": 1}), Evaluator(RING), False)
        swapped = Program([(name, RING[name]) for name in reversed(RING.names)])
        self.assert_equal(Evaluator(RING), Evaluator(swapped), False)

    def test_what_is_cached(self):
        one, other = Evaluator(RING), Evaluator(RING)
        one.run("z")
        self.assert_equal(one, other, False)
        other.run("y")
        self.assert_equal(one, other, False)
        one.run("y")
        self.assert_equal(one, other, False)
        other.run("z")
        self.assert_equal(one, other, True)

    def test_results_of_what_is_cached(self):
        one, other = unsound_evaluator("d"), unsound_evaluator("d", "e")
        self.assertEqual(one.cached, other.cached)
        self.assert_equal(one, other, False)
        self.assert_equal(unsound_evaluator("d"), unsound_evaluator("d"), True)

    def test_equal_results_of_other_nodes(self):
        program = Program.parse("p: call w\nw: call p, read d\nv: call p")
        one, other = Evaluator(program), Evaluator(program)
        one.run("p")
        other.run("w")
        self.assert_equal(one, other, True)

    def test_readings_and_calm_have_no_meaning(self):
        one, other = Evaluator(RING), Evaluator(RING)
        one.run("z")
        other.run("z")
        with self.assertRaises(CallFailed):
            other.run("y", broken=["e"])
        self.assertNotEqual((one.readings, one.calm), (other.readings, other.calm))
        self.assert_equal(one, other, True)

    def test_other_kinds_of_values(self):
        evaluator = Evaluator(RING)
        for value in (None, RING, RING.text(), 0, (), {}, CarefulPolicy(), NameSet()):
            self.assert_equal(evaluator, value, False)


if __name__ == "__main__":
    unittest.main()
