"""Histories: runs and new numbers in order, their text, and what an evaluator does with them."""

from midfall.errors import CallFailed, InvalidHistory
from midfall.names import is_name
from midfall.namesets import NameSet
from midfall.numerals import is_number, is_numeral

MOST_EVENTS = 200
# This stands for an event where a line has another form: no event is empty.
MALFORMED = ()


class History:
    """Events in order; a history does not change after it is made."""

    def __init__(self, events=()):
        for line, event in enumerate(events, start=1):
            if line > MOST_EVENTS or not _is_event(event):
                raise InvalidHistory(line)
        self.events = tuple([_ordered_event(event) for event in events])

    @classmethod
    def parse(cls, text):
        """Return the history that has the text."""
        if text == "":
            return cls()
        return cls([_parsed_event(line) for line in text.split("\n")])

    def text(self):
        """Return the text of the history."""
        return "\n".join([_event_text(event) for event in self.events])

    def play(self, evaluator):
        """Perform the events on the evaluator and return an outcome for each."""
        return [_outcome(evaluator, event) for event in self.events]

    def __add__(self, other):
        # Together they may have more events than one that is made of a list.
        joined = History()
        joined.events = self.events + other.events
        return joined

    def __eq__(self, other):
        return isinstance(other, History) and self.events == other.events

    def __len__(self):
        return len(self.events)


def _is_event(event):
    if not isinstance(event, tuple) or len(event) != 3 or not is_name(event[1]):
        return False
    kind, _, more = event
    if kind == "run":
        return _are_places(more)
    return kind == "set" and is_number(more)


def _are_places(places):
    if not isinstance(places, (list, tuple, NameSet)):
        return False
    names = places.members if isinstance(places, NameSet) else places
    return all([is_name(name) for name in names])


def _ordered_event(event):
    """Return the event with its places in ascending order, without duplicates."""
    kind, name, more = event
    return (kind, name, NameSet(more).members) if kind == "run" else event


def _parsed_event(line):
    kind, *words = line.split(" ")
    if kind == "run" and len(words) == 1:
        return kind, words[0], ()
    if kind == "run" and len(words) > 2 and words[1] == "broken":
        return kind, words[0], words[2:]
    if kind == "set" and len(words) == 2 and is_numeral(words[1]):
        return kind, words[0], int(words[1])
    return MALFORMED


def _event_text(event):
    kind, name, more = event
    if kind == "set":
        return f"set {name} {more}"
    return " ".join(["run", name] + (["broken", *more] if more else []))


def _outcome(evaluator, event):
    """Perform an event and return its outcome."""
    kind, name, more = event
    if kind == "set":
        before = evaluator.cached
        evaluator[name] = more
        return "removed", (before - evaluator.cached).members
    try:
        return "result", evaluator.run(name, broken=more)
    except CallFailed as failed:
        return "failed", failed.path, failed.place
