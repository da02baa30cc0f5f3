"""Repairs: midfall/repairs.py, point 26."""

import itertools
import unittest

from midfall.evaluators import Evaluator
from midfall.hazards import faults, needs
from midfall.histories import History
from midfall.judging import judge
from midfall.namesets import NameSet
from midfall.policies import CarefulPolicy, EagerPolicy, TrailPolicy
from midfall.programs import Program
from midfall.repairs import reads_first, warming
from tests.exploring import risky_programs
from tests.machine import random_events
from tests.playing import perform, random_marks
from tests.reference import full_program, random_program

PROGRAM = Program.parse("p: call e, call w, try z\ne: read d\nw: call p\nz: read d")


def placings(body):
    """Return all bodies with the same steps, and with the steps other than reads in the same order."""
    others = [step for step in body if step[0] != "read"]
    found = {steps for steps in itertools.permutations(body)
             if [step for step in steps if step[0] != "read"] == others}
    return sorted(found)


class ReadsFirstTest(unittest.TestCase):
    def assert_text(self, text, expected):
        program = Program.parse(text)
        found = reads_first(program)
        self.assertIsInstance(found, Program)
        self.assertEqual(found.text(), expected)
        self.assertEqual(program.text(), text)

    def test_ordinary_programs(self):
        self.assert_text("p: call w, say x, read d, read c\nw: call p", "p: read d, read c, call w, say x\nw: call p")
        self.assert_text("p: read d, try p, read c, say y, read d, call q\nq: say x, read d",
                         "p: read d, read c, read d, try p, say y, call q\nq: read d, say x")
        self.assertEqual(reads_first.__module__, "midfall.repairs")

    def test_nothing_to_do(self):
        for text in ("p:", "p: say x, call p", "p: read d, read c", "z: read d, call a\na: try z"):
            self.assert_text(text, text)

    def test_largest_programs(self):
        for seed in range(5):
            program = full_program(seed)
            found = reads_first(program)
            self.assertEqual(found.names, program.names)
            for name in program.names:
                kinds = [kind == "read" for kind, _ in found[name]]
                self.assertEqual(kinds, sorted(kinds, reverse=True))
                for wanted in (True, False):
                    self.assertEqual([step for step in found[name] if (step[0] == "read") == wanted],
                                     [step for step in program[name] if (step[0] == "read") == wanted])
            self.assertEqual(reads_first(found), found)

    def test_its_needs_are_a_part_of_those_of_every_placing(self):
        fewer = 0
        programs = risky_programs(25, procedures=3, steps=4) + [random_program(seed, 3, 4) for seed in range(25)]
        for program in programs:
            least = needs(reads_first(program))
            bodies = [placings(program[name]) for name in program.names]
            for chosen in itertools.islice(itertools.product(*bodies), 400):
                other = Program(list(zip(program.names, chosen)))
                self.assertTrue(least <= needs(other), other.text())
                self.assertEqual(needs(reads_first(other)), least)
                fewer += least < needs(other)
        self.assertGreater(fewer, 100)


class WarmingTest(unittest.TestCase):
    def test_ordinary_program(self):
        evaluator = Evaluator(PROGRAM, policy=EagerPolicy())
        self.assertIsInstance(warming(evaluator), NameSet)
        self.assertEqual(warming(evaluator).members, ("z",))
        evaluator.run("e")
        self.assertEqual(warming(evaluator).members, ("z",))
        evaluator.run("z")
        self.assertEqual(warming(evaluator).members, ())
        evaluator["d"] = 1
        self.assertEqual(warming(evaluator).members, ("z",))
        self.assertEqual(warming.__module__, "midfall.repairs")

    def test_policies(self):
        for policy in (CarefulPolicy(), TrailPolicy(), EagerPolicy(["w"]), EagerPolicy(PROGRAM.names)):
            found = warming(Evaluator(PROGRAM, policy=policy))
            self.assertIsInstance(found, NameSet)
            self.assertEqual(found.members, ())
        self.assertEqual(warming(Evaluator(PROGRAM, policy=EagerPolicy(["p", "e", "z"]))).members, ("z",))

    def test_some_faults_are_cached(self):
        program = Program.parse("p: call w, try y, try z\nw: call p\nz: read d\ny: read c")
        evaluator = Evaluator(program, policy=EagerPolicy())
        self.assertEqual(warming(evaluator).members, ("y", "z"))
        evaluator.run("y")
        self.assertEqual(warming(evaluator).members, ("z",))

    def test_what_is_cached_and_not_sound_counts_as_cached(self):
        program = Program.parse("p: call q, read d\nq: call w, read c\nw: call p")
        evaluator = Evaluator(program, policy=EagerPolicy())
        with self.assertRaises(ValueError):
            evaluator.run("p", broken=["d"])
        self.assertEqual(evaluator.cached.members, ("q", "w"))
        self.assertEqual(warming(evaluator).members, ("p",))

    def test_the_evaluator_does_not_change(self):
        evaluator = Evaluator(PROGRAM, policy=EagerPolicy())
        evaluator.run("p", broken=[])
        before = evaluator.copy()
        warming(evaluator)
        self.assertEqual((evaluator, evaluator.readings), (before, before.readings))

    def test_calm_runs_make_an_evaluator_safe(self):
        warmed = 0
        for seed, program in enumerate(risky_programs(150, procedures=5, steps=4)):
            with self.subTest(program=program.text()):
                marks = random_marks(seed, program)
                evaluator = Evaluator(program, policy=EagerPolicy(marks))
                for event in random_events(seed, program, seed % 4):
                    perform(evaluator, event)
                self.assertEqual(warming(evaluator), faults(program, marks=marks) - evaluator.cached)
                if not evaluator.wrong().members:
                    self.assertIs(judge(evaluator).safe, warming(evaluator) == NameSet())
                    warmed += len(warming(evaluator)) > 0
                    History([("run", name, ()) for name in warming(evaluator).members]).play(evaluator)
                    self.assertIs(judge(evaluator).safe, True)
                    self.assertEqual(warming(evaluator).members, ())
                    for event in random_events(seed, program, 8):
                        if event[0] == "run":
                            perform(evaluator, event)
                            self.assertEqual(evaluator.wrong().members, ())
        self.assertGreater(warmed, 30)


if __name__ == "__main__":
    unittest.main()
