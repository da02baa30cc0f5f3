"""Immutable sets of names."""


class NameSet:
    """A set of names; it may contain strings that are not names."""

    def __init__(self, names=()):
        if isinstance(names, NameSet):
            names = names.members
        self.members = tuple(sorted(set(names)))

    def __eq__(self, other):
        return isinstance(other, NameSet) and self.members == other.members

    def __le__(self, other):
        return all([name in other.members for name in self.members])

    def __lt__(self, other):
        return self <= other and self.members != other.members

    def __or__(self, other):
        return NameSet(self.members + other.members)

    def __and__(self, other):
        return NameSet([name for name in self.members if name in other.members])

    def __sub__(self, other):
        return NameSet([name for name in self.members if name not in other.members])

    def __contains__(self, name):
        return name in self.members

    def __len__(self):
        return len(self.members)
