"""The largest programs and results take well below a second for each question."""

import random
import time
import unittest

from midfall.alike import alike, parting
from midfall.errors import CallFailed
from midfall.evaluators import Evaluator
from midfall.graphs import breaks, closure, reached, required
from midfall.hazards import faults, hazards, needs, tainted
from midfall.histories import History
from midfall.judging import judge
from midfall.plain import plain_result
from midfall.policies import CarefulPolicy, EagerPolicy, TrailPolicy
from midfall.programs import Program
from midfall.repairs import reads_first, warming
from midfall.results import Result
from midfall.tracing import trace
from tests.reference import full_program

MOST_SECONDS = 0.5
NAMES = [chr(ord("a") + number) for number in range(16)]


def ladder():
    """Return a program in which each step calls the procedure after its own: very many paths, and one ring."""
    return Program([(name, [("call", after)] * 12) for name, after in zip(NAMES, NAMES[1:])]
                   + [("p", [("try", "a")] * 11 + [("read", "d")])])


def programs():
    nearly_all = [[("call", other) for other in NAMES[at % 4:at % 4 + 12]] for at in range(16)]
    return [full_program(1), full_program(2), ladder(), Program(list(zip(NAMES, nearly_all)))]


def reading_program(seed):
    """Return a program of 16 procedures with 12 steps each, nearly half of which read a place of their own."""
    chance = random.Random(seed)
    places = [f"d{one}{two}" for one in NAMES for two in NAMES]
    bodies = []
    for name in NAMES:
        reads = [("read", places.pop()) for _ in range(5)]
        steps = reads + [(chance.choice(["call", "call", "try"]), chance.choice(NAMES)) for _ in range(7)]
        bodies.append((name, chance.sample(steps, 12)))
    return Program(bodies)


class SpeedTest(unittest.TestCase):
    def timed(self, function, *arguments, **options):
        start = time.perf_counter()
        found = function(*arguments, **options)
        self.assertLess(time.perf_counter() - start, MOST_SECONDS)
        return found

    def test_graphs(self):
        for program in programs():
            for name in program.names:
                for function in (reached, required, breaks):
                    self.timed(function, program, name)
                self.timed(breaks, program, name, spared=program.names[1::2])
            self.timed(closure, program, program.names)
            self.timed(closure, program, program.names[:1])

    def test_plain_results(self):
        for program in programs():
            for broken in ((), program.places, program.places[::3]):
                for spared in ((), program.names, program.names[::2]):
                    try:
                        self.timed(plain_result, program, "a", broken=broken, spared=spared)
                    except CallFailed as error:
                        self.assertEqual(error.name, "a")

    def test_a_failed_run_with_very_many_paths(self):
        start = time.perf_counter()
        with self.assertRaises(CallFailed) as context:
            plain_result(ladder(), "a", broken=["d"])
        self.assertLess(time.perf_counter() - start, MOST_SECONDS)
        self.assertEqual(context.exception.path, tuple(NAMES))

    def test_traces(self):
        for program in programs():
            for name in program.names:
                self.assertGreater(len(self.timed(lambda: list(trace(program, name)))), 12)

    def test_runs(self):
        for program in programs() + [reading_program(1), reading_program(2)]:
            for policy in (CarefulPolicy(), TrailPolicy(), EagerPolicy(), EagerPolicy(program.names)):
                for broken in ((), program.places, program.places[::3], program.places[:1]):
                    evaluator = Evaluator(program, policy=policy)
                    for name in program.names:
                        try:
                            self.timed(evaluator.run, name, broken=broken)
                        except CallFailed as error:
                            self.assertEqual(error.name, name)
                        self.timed(evaluator.wrong)
                    self.assertTrue(self.timed(lambda: evaluator == evaluator.copy()))

    def test_calls_that_fail_again_and_again(self):
        """Each of them would take very long if what has failed were called anew."""
        steps = [(name, [("try", after)] * 4 + [("read", "d")]) for name, after in zip(NAMES[:11], NAMES[1:12])]
        program = Program(steps + [("l", [("read", "d")]), ("p", [("try", "a")])])
        for policy in (CarefulPolicy(), TrailPolicy(), EagerPolicy()):
            result = self.timed(Evaluator(program, policy=policy).run, "p", broken=["d"])
            self.assertEqual(result.text(), "0: -")

    def test_hazards(self):
        found = 0
        for program in programs() + [reading_program(seed) for seed in range(8)]:
            for name in program.names:
                found += len(self.timed(hazards, program, name))
            self.timed(needs, program)
            for function in (faults, tainted):
                self.timed(function, program)
                self.timed(function, program, marks=program.names[::2])
        self.assertGreater(found, 100)

    def test_verdicts_and_repairs(self):
        unsafe = 0
        for program in programs() + [reading_program(seed) for seed in range(6)]:
            for marks in ((), program.names[::2], program.names[1:]):
                evaluator = Evaluator(program, policy=EagerPolicy(marks))
                for broken in (program.places, program.places[::3], program.places[:2], ()):
                    unsafe += not self.timed(judge, evaluator).safe
                    self.timed(warming, evaluator)
                    History([("run", name, broken) for name in program.names[:3]]).play(evaluator)
            self.timed(reads_first, program)
        self.assertGreater(unsafe, 20)

    def alike_programs(self):
        """Yield programs with very many places, with very many pairs of equal results, and with both."""
        for seed in range(3):
            yield reading_program(seed)
        for classes in (1, 2, 4, 8, 16):
            bodies = []
            for at, name in enumerate(NAMES):
                calls = [(kind, NAMES[(at + classes * step) % 16]) for step, kind in ((1, "call"), (3, "try"))]
                bodies.append((name, calls + [("read", f"{NAMES[at % classes]}{letter}") for letter in NAMES[:10]]))
            yield Program(bodies)
        yield Program([(name, [("read", f"{name}{letter}") for letter in NAMES[:11]] + [("try", after)])
                       for name, after in zip(NAMES, NAMES[1:] + ["a"])])

    def test_alike(self):
        same = 0
        for program in [*programs(), *self.alike_programs()]:
            other = Program([(name, program[name]) for name in reversed(program.names)])
            for name in program.names[::5]:
                for other_name in (name, program.names[-1]):
                    same += self.timed(alike, program, name, other, other_name)
                    self.timed(parting, program, name, other, other_name)
        self.assertGreater(same, 40)

    def test_results(self):
        chain = [[("node", min(at + 1, 39))] * 12 for at in range(39)]
        ring = [[("node", (at * 7 + item) % 40) for item in range(12)] for at in range(40)]
        other_ring = [[("node", (at * 11 + item) % 40) for item in range(12)] for at in range(40)]
        for rows in (ring, other_ring):
            rows[0][11] = ("gap",)
        results = [self.timed(Result, rows) for rows in (chain + [[("word", "x")]], chain + [[("word", "y")]],
                                                         chain + [[]], ring, other_ring)]
        for one in results:
            self.timed(one.at, *[0] * 39)
            self.timed(one.text)
            self.timed(Result.parse, one.text())
            for other in results:
                path = self.timed(one.first_difference, other)
                self.assertIs(path is None, self.timed(lambda: one == other))
        self.assertEqual(results[0].first_difference(results[1]), (0,) * 40)


if __name__ == "__main__":
    unittest.main()
