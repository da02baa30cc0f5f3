"""Events that are performed on evaluators, one by one, for the tests."""

import random

from midfall.errors import CallFailed
from midfall.policies import CarefulPolicy, EagerPolicy, TrailPolicy


def made_policy(kind, marks):
    if kind == "eager":
        return EagerPolicy(marks)
    return CarefulPolicy() if kind == "careful" else TrailPolicy()


def random_marks(seed, program):
    chance = random.Random(seed)
    return [name for name in program.names if chance.random() < 0.4]


def outcome(run, *arguments, **options):
    """Return ("result", rows) or ("failed", path, place) of a call."""
    try:
        return "result", run(*arguments, **options).rows()
    except CallFailed as error:
        return "failed", error.path, error.place


def perform(evaluator, event):
    """Perform an event; return the outcome of a run."""
    if event[0] == "run":
        return outcome(evaluator.run, event[1], broken=event[2])
    evaluator[event[1]] = event[2]
    return None
