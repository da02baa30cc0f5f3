"""Verdicts: whether runs alone can make an evaluator wrong about a procedure, and a history that does."""

from midfall.hazards import hazards
from midfall.histories import History
from midfall.namesets import NameSet
from midfall.plain import plain_result
from midfall.policies import EagerPolicy
from midfall.tracing import trace


class Verdict:
    """What `judge` tells. If the evaluator is safe, all attributes but `safe` are None."""

    def __init__(self):
        self.safe = True
        self.length = None
        self.history = None
        self.name = None
        self.returned = None
        self.expected = None
        self.path = None

    def __bool__(self):
        return bool(self.safe)


def judge(evaluator):
    """Return the verdict on the evaluator as it is now."""
    wrong = evaluator.wrong()
    if len(wrong) > 0:
        return _unsafe(evaluator, 0, [_first_run(evaluator, wrong)])
    choices = _choices(evaluator)
    if not choices:
        return Verdict()
    length, name, index = choices[0]
    for choice in choices:
        if choice[0] < length:
            length, name, index = choice
    return _unsafe(evaluator, length, _events(evaluator, name, index))


def _unsafe(evaluator, length, events):
    """Return the verdict with these events, the last one of which is a calm run that goes wrong."""
    program = evaluator.program
    numbers = {place: evaluator[place] for place in program.places}
    verdict = Verdict()
    verdict.safe = False
    verdict.length = length
    verdict.history = History(events)
    verdict.name = events[-1][1]
    outcomes = verdict.history.play(evaluator.copy())
    verdict.returned = outcomes[-1][1]
    verdict.expected = plain_result(program, verdict.name, numbers=numbers)
    verdict.path = verdict.returned.first_difference(verdict.expected)
    return verdict


def _first_run(evaluator, names):
    """Return a run with no broken place of the first of the procedures in program order."""
    return "run", [name for name in evaluator.program.names if name in names][0], ()


def _choices(evaluator):
    """Return the hazards that can make the evaluator wrong, in program order.

    Each is the number of its readings by procedures that are not cached, the procedure whose fresh run
    has it, and its index in the list of the hazards of that run.
    """
    if not isinstance(evaluator.policy, EagerPolicy):
        return []
    choices = []
    for name in evaluator.program.names:
        read = _readings(evaluator.program, name)
        for index, (count, reader, _, exposed) in enumerate(hazards(evaluator.program, name)):
            if reader not in evaluator and len(_unmarked(evaluator, exposed)) > 0:
                length = len([earlier for earlier, _ in read[:count] if earlier not in evaluator])
                choices.append((length, name, index))
    return choices


def _readings(program, name):
    """Return the readings of the fresh run of a procedure."""
    return [(event[1], event[2]) for event in trace(program, name) if event[0] == "read"]


def _unmarked(evaluator, exposed):
    return NameSet(exposed) - evaluator.policy.marks


def _events(evaluator, name, index):
    """Return the runs that go wrong by a hazard of the fresh run of a procedure."""
    count, _, place, exposed = hazards(evaluator.program, name)[index]
    events = []
    copied = evaluator.copy()
    for reader, read in _readings(evaluator.program, name)[:count - 1]:
        # What is cached already, also by one of these runs, reads nothing any more.
        if read == place and reader not in copied:
            copied.run(reader)
            events.append(("run", reader, ()))
    return events + [("run", name, (place,)), _first_run(evaluator, _unmarked(evaluator, exposed))]
