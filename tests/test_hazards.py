"""Hazards: midfall/hazards.py, points 23 and 24."""

import itertools
import random
import unittest

from midfall.errors import UnknownProcedure
from midfall.evaluators import Evaluator
from midfall.hazards import faults, hazards, needs, tainted
from midfall.namesets import NameSet
from midfall.policies import EagerPolicy
from midfall.programs import Program
from tests.exploring import States, risky_programs
from tests.machine import (
    Machine, expected_faults, expected_hazards, expected_needs, expected_tainted, random_events,
)
from tests.playing import perform, random_marks
from tests.reference import random_program, subsets

NAMES = [chr(ord("a") + number) for number in range(16)]
PROGRAM = Program.parse("p: call e, call w, try z\ne: read d\nw: call p\nz: read d\nv: try w\nx: say y")


class HazardsTest(unittest.TestCase):
    def assert_hazards(self, text, name, expected):
        found = hazards(Program.parse(text), name)
        self.assertIsInstance(found, list)
        self.assertEqual(found, expected)
        self.assertEqual(found, expected_hazards(Program.parse(text), name))

    def test_ordinary_programs(self):
        self.assert_hazards(PROGRAM.text(), "p", [(2, "z", "d", ("w",))])
        for name in ("e", "w", "z", "v", "x"):
            self.assertEqual(hazards(PROGRAM, name), [])
        self.assertEqual(hazards.__module__, "midfall.hazards")

    def test_a_reading_without_an_exposed_procedure(self):
        self.assert_hazards("p: read c, call q, read d\nq: say x", "p", [])
        self.assert_hazards("p: read c, call w, read d\nw: call p", "p", [(2, "p", "d", ("w",))])

    def test_the_index_counts_all_readings(self):
        text = "p: read c, call a, call w, read d, read e, call w\na: read c, read f\nw: call p, read c\nq: call p"
        expected = [(5, "p", "d", ("w",)), (6, "p", "e", ("w",))]
        self.assert_hazards(text, "p", expected)
        self.assert_hazards(text, "q", expected)

    def test_a_place_that_was_read_above(self):
        """The hazard counts only if no earlier reader of its place reaches the one that reads."""
        self.assert_hazards("p: read d, call w, read d\nw: call p", "p", [])
        self.assert_hazards("p: call w, read d, read d\nw: call p", "p", [(1, "p", "d", ("w",))])
        self.assert_hazards("p: call w, call q, read d\nw: call p, read d\nq: read d", "p", [])
        self.assert_hazards("p: call a, call w, call z\na: read d\nw: call p\nz: read d", "p", [(2, "z", "d", ("w",))])
        self.assert_hazards("p: call a, call w, call z\na: read d, try z\nw: call p\nz: read d", "p", [])
        self.assert_hazards("p: call a, call w, call z\na: read c, try z\nw: call p\nz: read d, read c", "p", [])

    def test_a_step_that_is_being_executed_is_no_item(self):
        """While z reads, z is no item of q yet: w leads to p and to the open call of q all the same."""
        self.assert_hazards("p: call w, call q\nw: call p\nq: call z\nz: read d", "p", [(1, "z", "d", ("w",))])
        self.assert_hazards("p: call q\nq: call w, try z\nw: say x\nz: read d", "p", [])

    def test_exposed_procedures_ascend(self):
        text = "p: call z, call c, call y, read d\nz: call b\nb: try p\nc: say x\ny: call c, call z\nq: call y, read e"
        self.assert_hazards(text, "p", [(1, "p", "d", ("b", "y", "z"))])
        self.assert_hazards(text, "z", [(1, "p", "d", ("y",))])
        self.assert_hazards(text, "q", [])

    def test_procedures_that_lead_to_open_calls_no_longer(self):
        """As q completes, w and q itself lead to no open call."""
        self.assert_hazards("p: call q, read d\nq: call w, read c\nw: call q", "p", [(1, "q", "c", ("w",))])

    def test_procedures_that_call_themselves(self):
        self.assert_hazards("p: call p, read d", "p", [])
        self.assert_hazards("p: call q, read d\nq: try q, call q, read c", "p", [])

    def test_rings_of_sixteen(self):
        steps = [(name, [("call", after)]) for name, after in zip(NAMES[1:], NAMES[2:] + ["a"])]
        program = Program([("a", [("call", "b"), ("read", "d")])] + steps)
        self.assertEqual(hazards(program, "a"), [(1, "a", "d", tuple(NAMES[1:]))])
        self.assertEqual(hazards(program, "b"), [])
        self.assertEqual(hazards(program, "c"), [(1, "a", "d", ("b",))])
        self.assertEqual(hazards(program, "p"), [(1, "a", "d", tuple(NAMES[1:15]))])
        self.assertEqual((needs(program).members, faults(program).members, tainted(program).members),
                         (tuple(NAMES[1:]), ("a",), tuple(NAMES)))

    def test_unknown_procedure(self):
        for name in ("zz", "", "d", "y", "P", "ninechars"):
            with self.assertRaises(UnknownProcedure) as context:
                hazards(PROGRAM, name)
            self.assertEqual(context.exception.name, name)

    def test_a_list_that_was_returned_may_change(self):
        hazards(PROGRAM, "p").clear()
        self.assertEqual(hazards(PROGRAM, "p"), [(2, "z", "d", ("w",))])


class SetsTest(unittest.TestCase):
    def test_ordinary_program(self):
        for function in (needs, faults, tainted):
            self.assertIsInstance(function(PROGRAM), NameSet)
            self.assertEqual(function.__module__, "midfall.hazards")
        self.assertEqual(needs(PROGRAM).members, ("w",))
        self.assertEqual(faults(PROGRAM).members, ("z",))
        self.assertEqual(tainted(PROGRAM).members, ("p", "v", "w"))

    def test_marks(self):
        for marks in subsets(PROGRAM.names):
            for kind in (list, tuple, NameSet):
                expected = ((), ()) if "w" in marks else (("z",), ("p", "v", "w"))
                given = kind(marks + marks[::-1])
                self.assertEqual((faults(PROGRAM, marks=given).members, tainted(PROGRAM, marks=given).members),
                                 expected)

    def test_some_of_the_needs_are_marked(self):
        program = Program.parse("p: call q, read d\nq: call w, read c\nw: call p")
        self.assertEqual(faults(program, marks=["q", "w"]).members, ("q",))
        self.assertEqual(faults(program, marks=["q", "w", "p"]).members, ())
        self.assertEqual(faults(program, marks=["q"]).members, ("p", "q"))
        self.assertEqual(faults(program, marks=["p", "w"]).members, ("p",))
        self.assertEqual(tainted(program, marks=["p", "w"]).members, ("p", "q", "w"))

    def test_programs_without_hazards(self):
        for text in ("p:", "p: call p", "p: read d", "p: read d, call q\nq: call p", "p: try q\nq: read d, say x"):
            program = Program.parse(text)
            for function in (needs, faults, tainted):
                self.assertEqual(function(program).members, ())

    def test_unknown_marks(self):
        for marks in itertools.permutations(["p", "zz", "d", "y"]):
            for function in (faults, tainted):
                for kind in (list, tuple, NameSet):
                    with self.assertRaises(UnknownProcedure) as context:
                        function(PROGRAM, marks=kind(marks))
                    self.assertEqual(context.exception.name, "d")
        for function in (faults, tainted):
            with self.assertRaises(UnknownProcedure):
                function(Program.parse("p:"), marks=["", "p"])
            with self.assertRaises(TypeError):
                function(PROGRAM, ["p"])

    def test_arguments_stay_as_they_are(self):
        marks, text = ["z", "p", "z"], PROGRAM.text()
        for function in (faults, tainted):
            function(PROGRAM, marks=marks)
        hazards(PROGRAM, "p")
        self.assertEqual((marks, PROGRAM.text()), (["z", "p", "z"], text))

    def test_against_a_direct_reading(self):
        more = risky_programs(150, start=500, procedures=5, steps=5, places=3)
        for seed, program in enumerate([random_program(seed, procedures=6, steps=5) for seed in range(150)] + more):
            with self.subTest(program=program.text()):
                for name in program.names:
                    self.assertEqual(hazards(program, name), expected_hazards(program, name))
                marks = random_marks(seed, program)
                self.assertEqual(needs(program).members, tuple(sorted(expected_needs(program))))
                for given in ([], marks, program.names):
                    self.assertEqual(faults(program, marks=given).members,
                                     tuple(sorted(expected_faults(program, given))))
                    self.assertEqual(tainted(program, marks=given).members,
                                     tuple(sorted(expected_tainted(program, given))))


class HistoriesTest(unittest.TestCase):
    """Point 24."""

    def test_what_is_wrong_behind_some_history(self):
        """Of all states that runs lead to: those in tainted go wrong, and the cached faults tell when none does."""
        for seed, program in enumerate(risky_programs(120, procedures=4, steps=4)):
            with self.subTest(program=program.text()):
                marks = random_marks(seed, program)
                states = States(Machine(program, "eager", marks))
                wrong = set().union(*[machine.wrong() for machine in states.known.values()])
                self.assertEqual(tainted(program, marks=marks).members, tuple(sorted(wrong)))
                unsound = states.unsound()
                leading = states.leading_to(unsound)
                for key in states.known.keys() - unsound:
                    safe = faults(program, marks=marks) <= NameSet(list(states.known[key].cache))
                    self.assertIs(safe, key not in leading)

    def test_with_new_numbers(self):
        """A history with new numbers makes nothing wrong outside of tainted."""
        for seed, program in enumerate(risky_programs(120, start=3000, procedures=5, steps=4)):
            marks = random_marks(seed, program)
            evaluator = Evaluator(program, policy=EagerPolicy(marks))
            for event in random_events(seed, program, 12):
                perform(evaluator, event)
                self.assertTrue(evaluator.wrong() <= tainted(program, marks=marks), program.text())

    def test_if_all_needs_are_marked(self):
        """Nothing is wrong, and further marks change neither the cache nor the readings."""
        for seed, program in enumerate(risky_programs(120, start=5000, procedures=5, steps=4)):
            marked = needs(program)
            others = [name for name in program.names if random.Random(seed).random() < 0.5]
            evaluators = [Evaluator(program, policy=EagerPolicy(marks))
                          for marks in (marked, marked | NameSet(others), program.names)]
            for event in random_events(seed, program, 12):
                for evaluator in evaluators:
                    perform(evaluator, event)
                    self.assertEqual(evaluator.wrong().members, (), program.text())
                    self.assertEqual(evaluator.readings, evaluators[0].readings)
                    evaluator.policy = EagerPolicy(program.names)
                    self.assertEqual(evaluator, evaluators[0])
                for evaluator, marks in zip(evaluators, (marked, marked | NameSet(others), program.names)):
                    evaluator.policy = EagerPolicy(marks)


if __name__ == "__main__":
    unittest.main()
