"""Policies: what an evaluator caches while a call that it depends on is still open."""

from midfall.namesets import NameSet


class Policy:
    """The base class of the three policies; a policy does not change after it is made."""

    word = "policy"

    def __init__(self):
        self.marks = NameSet()

    def __eq__(self, other):
        return isinstance(other, Policy) and self.word == other.word and self.marks == other.marks

    def __str__(self):
        return " ".join([self.word, *self.marks.members])


class CarefulPolicy(Policy):
    """Cache sound nodes only, when a run ends."""

    word = "careful"


class TrailPolicy(Policy):
    """Cache each node at once, and remove what the run has cached when a reading fails."""

    word = "trail"


class EagerPolicy(Policy):
    """Cache each node at once, and remove the marked ones that lead to an open call when a reading fails."""

    word = "eager"

    def __init__(self, marks=()):
        self.marks = NameSet(marks)
