"""Histories of runs, numbers and policies on many programs: points 14 to 21, against tests/machine.py."""

import random
import unittest

from midfall.evaluators import Evaluator
from midfall.hazards import needs
from midfall.plain import plain_result
from midfall.policies import CarefulPolicy, EagerPolicy, TrailPolicy
from midfall.programs import Program
from tests.exploring import risky_programs
from tests.machine import Machine, random_events
from tests.playing import made_policy, outcome, perform, random_marks
from tests.reference import plain_difference, random_program

KINDS = ("careful", "trail", "eager")


def programs():
    return ([random_program(seed, procedures=5, steps=4) for seed in range(150)]
            + risky_programs(150, start=1000, procedures=4, steps=4)
            + [random_program(seed, procedures=3, steps=6, places=3) for seed in range(60)])


def big_program(seed):
    """Return a program of six procedures with rings, and with places that are read by many."""
    chance = random.Random(seed)
    names = ["p", "q", "r", "s", "t", "u"]
    steps = [("read", "d"), ("read", "e"), ("say", "x")] + [("call", name) for name in names]
    steps += [("try", name) for name in names]
    return Program([(name, [chance.choice(steps) for _ in range(5)]) for name in names])


class MachineTest(unittest.TestCase):
    def play(self, program, kind, marks, events):
        """Play the events on an evaluator and on a machine, and compare all that can be seen."""
        numbers = {place: at for at, place in enumerate(program.places)}
        evaluator = Evaluator(program, policy=made_policy(kind, marks), numbers=numbers)
        machine = Machine(program, kind, marks, numbers)
        for event in events:
            before = evaluator.cached
            if event[0] == "use":
                evaluator.policy = made_policy(*event[1:])
                machine.kind, machine.marks = event[1], set(event[2])
            elif event[0] == "set":
                removed = machine.set(event[1], event[2])
                perform(evaluator, event)
                self.assertEqual(set(before.members) - set(evaluator.cached.members), removed)
            else:
                self.assertEqual(perform(evaluator, event), machine.run(event[1], event[2]))
            self.compare(evaluator, machine)
        return evaluator

    def compare(self, evaluator, machine):
        self.assertEqual(evaluator.readings, tuple(machine.readings))
        self.assertIs(evaluator.calm, machine.calm)
        self.assertEqual(evaluator.cached.members, tuple(sorted(machine.cache)))
        for name in machine.cache:
            self.assertEqual(evaluator.peek(name).rows(), machine.peek(name))
            calm = plain_difference(machine.peek(name), machine.program, name, machine.numbers, [], []) is None
            self.assertIs(calm, machine.is_sound(machine.cache[name]))
        self.assertEqual(evaluator.wrong().members, tuple(sorted(machine.wrong())))

    def test_each_policy(self):
        for seed, program in enumerate(programs()):
            for kind in KINDS:
                with self.subTest(program=program.text(), kind=kind):
                    self.play(program, kind, random_marks(seed, program), random_events(seed, program, 7))

    def test_with_changes_of_the_policy(self):
        wrong = 0
        for seed, program in enumerate(programs()):
            with self.subTest(program=program.text()):
                events = random_events(seed, program, 14, policies=True)
                wrong += len(self.play(program, "eager", [], events).wrong()) > 0
        self.assertGreater(wrong, 5)

    def test_bigger_rings(self):
        for seed in range(40):
            program = big_program(seed)
            with self.subTest(program=program.text()):
                self.play(program, KINDS[seed % 3], random_marks(seed, program), random_events(seed, program, 8, True))

    def test_equal_evaluators(self):
        """Evaluators are equal if and only if all that `==` speaks of can be seen to be equal."""
        for seed, program in enumerate(programs()[::6]):
            found = []
            for shift in range(3):
                evaluator = Evaluator(program, policy=EagerPolicy())
                for event in random_events(seed + shift, program, 5):
                    perform(evaluator, event)
                found.append(evaluator)
            for one in found:
                for other in found:
                    self.assertIs(one == other, self.shown(one) == self.shown(other))

    def shown(self, evaluator):
        return ([evaluator[place] for place in evaluator.program.places],
                [(name, evaluator.peek(name).text()) for name in evaluator.cached.members])


class PlainRunsTest(unittest.TestCase):
    """Point 20."""

    def assert_plain(self, evaluator, event):
        """Perform a run and compare it with the plain run in its world."""
        program, spared = evaluator.program, evaluator.cached
        numbers = {place: evaluator[place] for place in program.places}
        expected = outcome(plain_result, program, event[1], numbers=numbers, broken=event[2], spared=spared)
        self.assertEqual(perform(evaluator, event), expected)

    def play(self, program, policy, seed, always):
        """Play a history in which each run, or each calm run, is plain while nothing wrong is cached."""
        evaluator = Evaluator(program, policy=policy)
        for event in random_events(seed, program, 10):
            twin = evaluator.copy()
            perform(twin, event)
            if event[0] == "run" and not evaluator.wrong().members and (always or twin.calm):
                self.assert_plain(evaluator, event)
            else:
                perform(evaluator, event)

    def test_careful_and_trail(self):
        for seed, program in enumerate(programs()):
            with self.subTest(program=program.text()):
                self.play(program, CarefulPolicy(), seed, True)
                self.play(program, TrailPolicy(), seed, True)

    def test_eager(self):
        for seed, program in enumerate(programs()):
            with self.subTest(program=program.text()):
                self.play(program, EagerPolicy(needs(program)), seed, True)
                self.play(program, EagerPolicy(random_marks(seed, program)), seed, False)

    def test_no_wrong_nodes_are_made(self):
        """Point 19: not by a careful evaluator, and not by a trail evaluator."""
        for seed, program in enumerate(programs()):
            for policy in (CarefulPolicy(), TrailPolicy()):
                evaluator = Evaluator(program, policy=policy)
                for event in random_events(seed, program, 10):
                    perform(evaluator, event)
                    self.assertEqual(evaluator.wrong().members, (), program.text())


class CachesTest(unittest.TestCase):
    """Point 21."""

    def test_trail_is_a_part_of_eager_and_eager_of_careful(self):
        fewer = [0, 0]
        for seed, program in enumerate(programs()):
            policies = [TrailPolicy(), EagerPolicy(needs(program)), CarefulPolicy()]
            evaluators = [Evaluator(program, policy=policy) for policy in policies]
            for event in random_events(seed, program, 10):
                for evaluator in evaluators:
                    perform(evaluator, event)
                trail, eager, careful = [evaluator.cached for evaluator in evaluators]
                self.assertTrue(trail <= eager <= careful, program.text())
                fewer = [fewer[0] + (trail < eager), fewer[1] + (eager < careful)]
        self.assertGreater(min(fewer), 0)


if __name__ == "__main__":
    unittest.main()
