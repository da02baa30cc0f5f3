"""Verdicts: midfall/judging.py, point 25."""

import random
import unittest

from midfall.errors import CallFailed
from midfall.evaluators import Evaluator
from midfall.histories import History
from midfall.judging import Verdict, judge
from midfall.plain import plain_result
from midfall.policies import CarefulPolicy, EagerPolicy, TrailPolicy
from midfall.programs import Program
from midfall.results import Result
from tests.exploring import States, risky_programs
from tests.machine import Machine, random_events
from tests.reference import plain_difference, random_program

NAMES = [chr(ord("a") + number) for number in range(16)]
PROGRAM = Program.parse("p: call e, call w, try z\ne: read d\nw: call p\nz: read d")


def eager(text, *marks, **numbers):
    return Evaluator(Program.parse(text), policy=EagerPolicy(marks), numbers=numbers)


class JudgeCase(unittest.TestCase):
    def assert_safe(self, evaluator):
        verdict = judge(evaluator)
        self.assertIsInstance(verdict, Verdict)
        self.assertIs(verdict.safe, True)
        self.assertIs(bool(verdict), True)
        self.assertEqual([verdict.length, verdict.history, verdict.name, verdict.returned, verdict.expected,
                          verdict.path], [None] * 6)

    def assert_unsafe(self, evaluator, length, text):
        """The verdict has this length and history, and all else that follows from them."""
        verdict = judge(evaluator)
        self.assert_consistent(evaluator, verdict)
        self.assertEqual((verdict.length, verdict.history.text()), (length, text))
        return verdict

    def assert_consistent(self, evaluator, verdict):
        """The history goes wrong at its last run, which is calm, and not before."""
        self.assertIsInstance(verdict, Verdict)
        self.assertIs(verdict.safe, False)
        self.assertIs(bool(verdict), False)
        self.assertIsInstance(verdict.length, int)
        self.assertIsInstance(verdict.history, History)
        self.assertIsInstance(verdict.path, tuple)
        program = evaluator.program
        numbers = {place: evaluator[place] for place in program.places}
        twin, read = evaluator.copy(), 0
        for event in verdict.history.events:
            self.assertEqual(event[0], "run")
            sound = not twin.wrong().members
            spared = twin.cached
            last = History([event]).play(twin)[0]
            if event is not verdict.history.events[-1]:
                read += len(twin.readings)
                self.assert_plain_if(sound and not event[2], last, program, event[1], numbers, spared)
        self.assertEqual(read, verdict.length)
        self.assertIs(twin.calm, True)
        self.assertEqual(last, ("result", verdict.returned))
        self.assertEqual((verdict.name, event[2]), (event[1], ()))
        self.assertIsNone(plain_difference(verdict.expected.rows(), program, verdict.name, numbers, [], []))
        self.assertNotEqual(verdict.returned, verdict.expected)
        self.assertEqual(verdict.path, verdict.returned.first_difference(verdict.expected))

    def assert_plain_if(self, condition, outcome, program, name, numbers, spared):
        if condition:
            self.assertEqual(outcome, ("result", plain_result(program, name, numbers=numbers, spared=spared)))


class VerdictTest(JudgeCase):
    def test_a_hazard_from_an_empty_cache(self):
        evaluator = Evaluator(PROGRAM, policy=EagerPolicy(), numbers={"d": 5})
        verdict = self.assert_unsafe(evaluator, 2, "run e\nrun p broken d\nrun w")
        self.assertEqual((verdict.name, verdict.path), ("w", (0, 2)))
        self.assertEqual(verdict.returned.text(), "0: @1\n1: @2 @0 -\n2: 5")
        self.assertEqual(verdict.expected.text(), "0: @1\n1: @2 @0 @2\n2: 5")
        self.assertIsInstance(verdict.returned, Result)
        self.assertIsInstance(verdict.expected, Result)

    def test_careful_and_trail_are_safe(self):
        for policy in (CarefulPolicy(), TrailPolicy()):
            evaluator = Evaluator(PROGRAM, policy=policy)
            self.assert_safe(evaluator)
            evaluator.run("e")
            self.assert_safe(evaluator)
            evaluator.run("p")
            self.assert_safe(evaluator)

    def test_marks(self):
        for marks in (["w"], ["w", "p"], PROGRAM.names):
            self.assert_safe(Evaluator(PROGRAM, policy=EagerPolicy(marks)))
        for marks in ([], ["p", "e", "z"]):
            self.assert_unsafe(Evaluator(PROGRAM, policy=EagerPolicy(marks)), 2, "run e\nrun p broken d\nrun w")

    def test_programs_without_hazards(self):
        for text in ("p:", "p: call p, say x", "p: read d, call w\nw: call p", "p: try q\nq: try p",
                     "p: call p, read d"):
            self.assert_safe(eager(text))

    def test_behind_runs(self):
        evaluator = Evaluator(PROGRAM, policy=EagerPolicy())
        evaluator.run("e")
        self.assert_unsafe(evaluator, 1, "run p broken d\nrun w")
        evaluator.run("w")
        self.assert_safe(evaluator)
        evaluator = Evaluator(PROGRAM, policy=EagerPolicy())
        evaluator.run("z")
        self.assert_safe(evaluator)

    def test_behind_new_numbers(self):
        evaluator = Evaluator(PROGRAM, policy=EagerPolicy())
        evaluator.run("p")
        self.assert_safe(evaluator)
        evaluator["d"] = 0
        self.assert_safe(evaluator)
        evaluator["d"] = 10 ** 60 - 1
        verdict = self.assert_unsafe(evaluator, 2, "run e\nrun p broken d\nrun w")
        self.assertEqual(verdict.expected.at(0, 2, 0), ("number", 10 ** 60 - 1))

    def test_behind_a_change_of_the_policy(self):
        evaluator = Evaluator(PROGRAM)
        evaluator.policy = EagerPolicy()
        self.assert_unsafe(evaluator, 2, "run e\nrun p broken d\nrun w")
        evaluator.use(TrailPolicy())
        self.assert_safe(evaluator)
        evaluator.use(EagerPolicy(["w"]))
        self.assert_safe(evaluator)

    def test_wrong_now(self):
        evaluator = Evaluator(PROGRAM, policy=EagerPolicy(), numbers={"d": 5})
        History.parse("run e\nrun p broken d").play(evaluator)
        for policy in (EagerPolicy(), EagerPolicy(PROGRAM.names), CarefulPolicy(), TrailPolicy()):
            evaluator.policy = policy
            verdict = self.assert_unsafe(evaluator, 0, "run p")
            self.assertEqual((verdict.name, verdict.path), ("p", (1, 0, 2)))
        evaluator["d"] = 6
        self.assert_safe(evaluator)

    def test_wrong_now_in_program_order(self):
        evaluator = eager("w: call p\nv: try w\np: call w, try z\nz: read d")
        evaluator.run("p", broken=["d"])
        self.assert_unsafe(evaluator, 0, "run w")
        evaluator = eager("z: read d\nv: try w\np: call w, try z\nw: call p")
        evaluator.run("p", broken=["d"])
        self.assert_unsafe(evaluator, 0, "run v")


class ChoiceTest(JudgeCase):
    def test_the_least_length(self):
        text = "p: read c, read c, call w, read d\nw: call p\nq: read e, call v, read f\nv: call q"
        self.assert_unsafe(eager(text), 2, "run q broken f\nrun v")
        self.assert_unsafe(eager(text, "v"), 3, "run p broken d\nrun w")
        self.assert_safe(eager(text, "v", "w"))

    def test_the_first_in_program_order(self):
        text = "q: read e, call v, read f\nv: call q\np: read c, call w, read d\nw: call p"
        self.assert_unsafe(eager(text), 2, "run q broken f\nrun v")
        text = "p: read c, call w, read d\nw: call p\nq: read e, call v, read f\nv: call q"
        self.assert_unsafe(eager(text), 2, "run p broken d\nrun w")

    def test_the_first_hazard_of_a_run(self):
        self.assert_unsafe(eager("p: call w, read d, read c\nw: call p"), 1, "run p broken d\nrun w")

    def test_only_readings_that_are_not_cached_count(self):
        text = "p: call a, call w, read d\na: read c, read e\nw: call p\nq: read f, call v, read g\nv: call q"
        evaluator = eager(text)
        self.assert_unsafe(evaluator, 2, "run q broken g\nrun v")
        evaluator.run("a")
        self.assert_unsafe(evaluator, 1, "run p broken d\nrun w")

    def test_a_reader_that_is_cached_has_no_hazard(self):
        text = "p: call w, try z, read f, call v, try y\nw: call p\nz: read d\nv: call p\ny: read e"
        evaluator = eager(text)
        self.assert_unsafe(evaluator, 1, "run p broken d\nrun w")
        evaluator.run("z")
        self.assert_unsafe(evaluator, 1, "run p broken f\nrun w")

    def test_the_first_exposed_that_is_not_marked(self):
        text = "p: call w, call z, call y, read d\nz: call b\nw: call z\nb: try p\ny: call p"
        for marks, name in (("", "z"), ("z", "w"), ("zw", "b"), ("wb", "z"), ("zwb", "y")):
            self.assert_unsafe(eager(text, *marks), 1, f"run p broken d\nrun {name}")

    def test_earlier_readers_are_run_in_order_and_once(self):
        text = "p: call b, call a, call b, call w, try z\na: read d, read d\nb: read c, read d\nw: call p\nz: read d"
        self.assert_unsafe(eager(text), 5, "run b\nrun a\nrun p broken d\nrun w")
        evaluator = eager(text)
        evaluator.run("b")
        self.assert_unsafe(evaluator, 3, "run a\nrun p broken d\nrun w")
        evaluator.run("a")
        self.assert_unsafe(evaluator, 1, "run p broken d\nrun w")

    def test_earlier_readers_that_an_earlier_run_caches(self):
        """b is cached by the run of a, when its turn comes."""
        text = "p: call a, call w, try z\na: read d, call b\nb: read d\nw: call p\nz: read d"
        self.assert_unsafe(eager(text), 3, "run a\nrun p broken d\nrun w")

    def test_readers_of_other_places_are_not_run(self):
        text = "p: call a, call b, call w, try z\na: read c\nb: read d\nw: call p\nz: read d"
        self.assert_unsafe(eager(text), 3, "run b\nrun p broken d\nrun w")

    def test_readers_behind_the_hazard_are_not_run(self):
        text = "p: call w, call z, call y\nw: call p\nz: read d\ny: read d"
        self.assert_unsafe(eager(text), 1, "run p broken d\nrun w")

    def test_a_ring_of_sixteen(self):
        steps = [(name, [("call", after)]) for name, after in zip(NAMES[1:], NAMES[2:] + ["a"])]
        program = Program([("a", [("read", "c"), ("call", "b"), ("read", "d")])] + steps)
        self.assert_unsafe(Evaluator(program, policy=EagerPolicy()), 2, "run a broken d\nrun b")
        self.assert_unsafe(Evaluator(program, policy=EagerPolicy(NAMES[1:15])), 2, "run a broken d\nrun p")
        self.assert_safe(Evaluator(program, policy=EagerPolicy(NAMES[1:])))


class SearchTest(JudgeCase):
    """Verdicts against a search over all histories of runs."""

    def states(self, seed, program):
        """Return an evaluator and a machine in the same state, behind a few events."""
        chance = random.Random(seed)
        marks = [name for name in program.names if chance.random() < 0.2]
        evaluator, machine = Evaluator(program, policy=EagerPolicy(marks)), Machine(program, "eager", marks)
        for event in random_events(seed, program, chance.randint(0, 4)):
            if event[0] == "set":
                machine.set(event[1], event[2])
                evaluator[event[1]] = event[2]
                continue
            machine.run(event[1], event[2])
            try:
                evaluator.run(event[1], broken=event[2])
            except CallFailed:
                self.assertFalse(evaluator.calm)
        return evaluator, machine

    def test_many_programs(self):
        lengths = []
        more = [random_program(seed, procedures=4, steps=4) for seed in range(100)]
        for seed, program in enumerate(risky_programs(300, procedures=4, steps=5) + more):
            with self.subTest(program=program.text()):
                evaluator, machine = self.states(seed, program)
                verdict = judge(evaluator)
                fewest = States(machine).fewest_readings()
                self.assertEqual(verdict.length, fewest)
                if fewest is None:
                    self.assert_safe(evaluator)
                else:
                    self.assert_consistent(evaluator, verdict)
                    self.assert_goes_wrong_last(evaluator, verdict)
                lengths.append(fewest)
        self.assertLessEqual({None, 0, 1, 2, 3, 4}, set(lengths))

    def assert_goes_wrong_last(self, evaluator, verdict):
        """All runs before the last but one leave nothing wrong."""
        twin = evaluator.copy()
        History(verdict.history.events[:-2]).play(twin)
        self.assertEqual(len(twin.wrong()) > 0, verdict.length == 0 and len(evaluator.wrong()) > 0)


class StateTest(JudgeCase):
    def test_the_evaluator_does_not_change(self):
        for events in ("", "run e", "run z", "run e\nrun p broken d"):
            evaluator = Evaluator(PROGRAM, policy=EagerPolicy())
            History.parse(events).play(evaluator)
            before = evaluator.copy()
            judge(evaluator)
            self.assertEqual(evaluator, before)
            self.assertEqual((evaluator.readings, evaluator.calm), (before.readings, before.calm))

    def test_what_was_told_stays(self):
        evaluator = Evaluator(PROGRAM, policy=EagerPolicy(), numbers={"d": 5})
        verdict = judge(evaluator)
        evaluator["d"] = 7
        evaluator.run("p")
        evaluator.policy = CarefulPolicy()
        verdict.returned.rows().clear()
        self.assertEqual((verdict.safe, verdict.length, verdict.name, verdict.path), (False, 2, "w", (0, 2)))
        self.assertEqual(verdict.history.text(), "run e\nrun p broken d\nrun w")
        self.assertEqual(verdict.returned.text(), "0: @1\n1: @2 @0 -\n2: 5")
        self.assertEqual(verdict.expected.text(), "0: @1\n1: @2 @0 @2\n2: 5")
        self.assertTrue(judge(evaluator))

    def test_the_same_verdict_again(self):
        evaluator = Evaluator(PROGRAM, policy=EagerPolicy())
        for _ in range(2):
            self.assert_unsafe(evaluator, 2, "run e\nrun p broken d\nrun w")
        self.assertEqual((judge.__module__, Verdict.__module__), ("midfall.judging", "midfall.judging"))


if __name__ == "__main__":
    unittest.main()
