"""Plain results and failing paths of many small programs in all worlds, against the readings of tests/reference.py."""

import itertools
import unittest

from midfall.errors import CallFailed
from midfall.graphs import closure
from midfall.plain import plain_result
from midfall.programs import Program
from midfall.results import Result
from tests.reference import (
    bad_procedures, call_rows, expected_rows, failing_path, full_program, leads_to, plain_difference, random_program,
    subsets,
)

NUMBERS = {"d": 3, "e": -3, "f": 3}
SMALL_STEPS = [("read", "d"), ("say", "x"), ("call", "p"), ("call", "q"), ("try", "p"), ("try", "q")]
SMALL_BODIES = [body for count in range(3) for body in itertools.product(SMALL_STEPS, repeat=count)]


class PlainWorldsTest(unittest.TestCase):
    def check(self, program, name, broken, spared):
        """Compare one plain run with the readings, and return its rows, or None if it fails."""
        numbers = {place: NUMBERS.get(place, 0) for place in program.places}
        world = {"numbers": numbers, "broken": broken, "spared": spared}
        failing = failing_path(program, name, broken, spared)
        self.assertIs(failing is not None, name in bad_procedures(program, broken, spared))
        if failing is not None:
            with self.assertRaises(CallFailed) as context:
                plain_result(program, name, **world)
            error = context.exception
            self.assertEqual((error.name, error.path, error.place), (name, *failing), (program.text(), world))
            return None
        rows = plain_result(program, name, **world).rows()
        self.assertIsNone(plain_difference(rows, program, name, numbers, broken, spared), (program.text(), name, world))
        self.assertEqual(rows, expected_rows(rows))
        return rows

    def check_all_worlds(self, program):
        worlds = itertools.product(program.names, subsets(program.places), subsets(program.names))
        found = [self.check(program, name, broken, spared) for name, broken, spared in worlds]
        return sum(rows is None for rows in found), sum(rows is not None for rows in found)

    def test_every_program_of_two_short_procedures(self):
        failed = returned = 0
        for first, second in itertools.product(SMALL_BODIES, repeat=2):
            counts = self.check_all_worlds(Program([("p", first), ("q", second)]))
            failed, returned = failed + counts[0], returned + counts[1]
        self.assertGreater(failed, 2000)
        self.assertGreater(returned, 10000)

    def test_random_programs_of_up_to_four_procedures(self):
        failed = returned = 0
        for seed in range(150):
            counts = self.check_all_worlds(random_program(seed, procedures=4, steps=4, places=2))
            failed, returned = failed + counts[0], returned + counts[1]
        self.assertGreater(failed, 1000)
        self.assertGreater(returned, 2000)

    def test_random_programs_of_up_to_six_procedures(self):
        for seed in range(1000, 1040):
            program = random_program(seed, procedures=6, steps=3, places=3)
            worlds = list(itertools.product(subsets(program.places), subsets(program.names)))
            for broken, spared in worlds[seed % 5::5]:
                for name in program.names:
                    self.check(program, name, broken, spared)

    def test_the_result_is_that_of_the_calls_if_no_place_is_broken(self):
        compared = 0
        for seed in range(300):
            program = random_program(seed, procedures=4, steps=3, places=2)
            for name in program.names:
                rows = call_rows(program, name, NUMBERS)
                if len(rows) <= 40:
                    numbers = {place: NUMBERS[place] for place in program.places}
                    self.assertEqual(plain_result(program, name, numbers=numbers), Result(rows))
                    compared += 1
        self.assertGreater(compared, 400)

    def test_a_world_is_calm_for_spared_procedures(self):
        for seed in range(100):
            program = random_program(seed, procedures=5, steps=4)
            for name in program.names:
                calm = plain_result(program, name)
                for spared in ([name], closure(program, [name]), program.names):
                    self.assertEqual(plain_result(program, name, broken=program.places, spared=spared), calm)

    def test_full_programs(self):
        for seed in range(8):
            program = full_program(seed)
            for name in program.names:
                rows = plain_result(program, name).rows()
                self.assertIsNone(plain_difference(rows, program, name, {}, [], []))
                self.assertEqual(len(rows), len(leads_to(program, name, ("call", "try"))))
                for place in program.places[::5]:
                    self.check_full(program, name, [place], program.names[seed::3])

    def check_full(self, program, name, broken, spared):
        """Check a failing path by its properties: among all paths of a full program there are too many."""
        try:
            rows = plain_result(program, name, broken=broken, spared=spared).rows()
        except CallFailed as error:
            self.assertEqual((error.path[0], error.place), (name, broken[0]))
            self.assertFalse(set(error.path) & set(spared))
            self.assertIn(("read", broken[0]), program[error.path[-1]])
            for caller, callee in zip(error.path, error.path[1:]):
                self.assertIn(("call", callee), program[caller])
            for procedure in error.path[:-1]:
                self.assertNotIn(("read", broken[0]), program[procedure])
        else:
            self.assertEqual(rows, expected_rows(rows))


if __name__ == "__main__":
    unittest.main()
