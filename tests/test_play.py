"""Histories that are played on evaluators: History.play."""

import unittest

from midfall.errors import CallFailed, UnknownPlace, UnknownProcedure
from midfall.evaluators import Evaluator
from midfall.histories import History
from midfall.policies import CarefulPolicy, EagerPolicy, TrailPolicy
from midfall.programs import Program
from midfall.results import Result
from tests.exploring import risky_programs
from tests.machine import random_events
from tests.reference import random_program

PROGRAM = Program.parse("p: call w, try z\nw: read d\nz: read e")


class PlayTest(unittest.TestCase):
    def test_outcomes_of_each_form(self):
        evaluator = Evaluator(PROGRAM)
        history = History.parse("run w\nset d 3\nset d 3\nrun p broken d\nrun p broken e\nrun p\nset e 1\nset d 0")
        outcomes = history.play(evaluator)
        self.assertIsInstance(outcomes, list)
        for outcome in outcomes:
            self.assertIsInstance(outcome, tuple)
        for at in (0, 4, 5):
            self.assertEqual(len(outcomes[at]), 2)
            self.assertEqual(outcomes[at][0], "result")
            self.assertIsInstance(outcomes[at][1], Result)
        self.assertEqual([outcomes[at][1].text() for at in (0, 4, 5)],
                         ["0: 0", "0: @1 -\n1: 3", "0: @1 @2\n1: 3\n2: 0"])
        self.assertEqual(outcomes[1:4], [("removed", ("w",)), ("removed", ()), ("failed", ("p", "w"), "d")])
        self.assertEqual(outcomes[6:], [("removed", ("p", "z")), ("removed", ("w",))])
        self.assertEqual((evaluator["d"], evaluator["e"], len(evaluator)), (0, 1, 0))
        self.assertEqual((evaluator.readings, evaluator.calm), ((("z", "e"),), True))

    def test_removed_procedures_ascend(self):
        program = Program.parse("b: call a\nc: call b\na: read d\nd: try c, say x\ne: say x")
        evaluator = Evaluator(program)
        outcomes = History([("run", "d", ()), ("run", "e", ()), ("set", "d", -5)]).play(evaluator)
        self.assertEqual(outcomes[2], ("removed", ("a", "b", "c", "d")))
        self.assertEqual(evaluator.cached.members, ("e",))

    def test_the_empty_history(self):
        evaluator = Evaluator(PROGRAM)
        evaluator.run("p", broken=["e"])
        before, readings = evaluator.copy(), evaluator.readings
        self.assertEqual(History().play(evaluator), [])
        self.assertEqual((evaluator, evaluator.readings, evaluator.calm), (before, readings, False))

    def assert_ends(self, text, expected, played):
        """The history raises the error; the evaluator is as after the events that come before."""
        evaluator, other = Evaluator(PROGRAM), Evaluator(PROGRAM)
        with self.assertRaises(type(expected)) as context:
            History.parse(text).play(evaluator)
        self.assertEqual(vars(context.exception), vars(expected))
        History.parse(played).play(other)
        self.assertEqual(evaluator, other)
        self.assertEqual((evaluator.readings, evaluator.calm), (other.readings, other.calm))

    def test_unknown_names(self):
        played = "run p broken e\nset d 4\nrun z"
        for line, expected in (
            ("run q", UnknownProcedure("q")), ("run d broken c", UnknownProcedure("d")),
            ("run p broken e p c", UnknownPlace("c")), ("set w 1", UnknownPlace("w")),
        ):
            self.assert_ends(f"{played}\n{line}\nrun p\nset e 9", expected, played)
            self.assert_ends(line, expected, "")

    def test_the_history_stays(self):
        history = History.parse("run p broken e\nset d 1\nrun p")
        for _ in range(2):
            evaluator = Evaluator(PROGRAM, policy=EagerPolicy())
            outcomes = history.play(evaluator)
            outcomes.clear()
            self.assertEqual(history.text(), "run p broken e\nset d 1\nrun p")
            self.assertEqual(evaluator.cached.members, ("p", "w", "z"))

    def test_results_stay_when_the_evaluator_goes_on(self):
        evaluator = Evaluator(PROGRAM)
        outcomes = History.parse("run p").play(evaluator)
        History.parse("set d 7\nset e 7\nrun p").play(evaluator)
        self.assertEqual(outcomes[0][1].text(), "0: @1 @1\n1: 0")

    def test_as_runs_and_assignments_do(self):
        for seed, program in enumerate([random_program(seed, procedures=5) for seed in range(60)] + risky_programs(60)):
            events = random_events(seed, program, 10)
            for policy in (CarefulPolicy(), TrailPolicy(), EagerPolicy()):
                played, evaluator = Evaluator(program, policy=policy), Evaluator(program, policy=policy)
                outcomes = History(events).play(played)
                self.assertEqual(outcomes, [self.perform(evaluator, event) for event in events], program.text())
                self.assertEqual(played, evaluator)
                self.assertEqual((played.readings, played.calm), (evaluator.readings, evaluator.calm))

    def perform(self, evaluator, event):
        if event[0] == "set":
            before = evaluator.cached.members
            evaluator[event[1]] = event[2]
            return "removed", tuple(name for name in before if name not in evaluator)
        try:
            return "result", evaluator(event[1], event[2])
        except CallFailed as error:
            return "failed", error.path, error.place


if __name__ == "__main__":
    unittest.main()
