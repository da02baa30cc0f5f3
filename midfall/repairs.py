"""Repairs: ways to keep an eager evaluator from going wrong."""

from midfall.hazards import faults
from midfall.namesets import NameSet
from midfall.policies import EagerPolicy
from midfall.programs import Program


def reads_first(program):
    """Return the program with the `read` steps of each body first."""
    return Program([(name, _reads_first(program[name])) for name in program.names])


def _reads_first(body):
    return [step for step in body if step[0] == "read"] + [step for step in body if step[0] != "read"]


def warming(evaluator):
    """Return the procedures of which calm runs make the evaluator safe until a number changes."""
    policy = evaluator.policy
    if not isinstance(policy, EagerPolicy):
        return NameSet()
    return faults(evaluator.program, marks=policy.marks) - evaluator.cached
