"""Evaluators: they run the procedures of a program one after another and cache results for later runs."""

from midfall.checks import check_place, check_procedure, checked_numbers, checked_places, checked_procedures
from midfall.errors import CallFailed, NotCached
from midfall.graphs import reached, readers
from midfall.namesets import NameSet
from midfall.nodes import is_sound, rows_from
from midfall.plain import failure
from midfall.policies import CarefulPolicy
from midfall.results import Result
from midfall.rows import difference_path
from midfall.runs import Run


class Evaluator:
    """A program, a policy, a number for each place, and a cache of nodes."""

    def __init__(self, program, *, policy=None, numbers=None):
        self.program = program
        self.use(CarefulPolicy() if policy is None else policy)
        self._numbers = checked_numbers(program, numbers)
        # The cached nodes by procedure. Their calls have ended, so they never change and copies share them.
        self._nodes = {}
        self.readings = ()
        self.calm = True

    @property
    def policy(self):
        """The policy; a new one does not change the cache."""
        return self._policy

    @policy.setter
    def policy(self, value):
        self.use(value)

    def use(self, policy):
        """Take another policy."""
        checked_procedures(self.program, policy.marks)
        self._policy = policy

    @property
    def cached(self):
        """The cached procedures."""
        return NameSet(list(self._nodes))

    def run(self, name, *, broken=()):
        """Run the procedure and return its result; raise CallFailed if its call fails."""
        check_procedure(self.program, name)
        places = checked_places(self.program, broken)
        spared = self.cached
        run = Run(self.program, self._policy, self._numbers, places, self._nodes)
        node = run.ask(name)
        run.end()
        self._nodes = run.cache
        self.readings = tuple(run.readings)
        self.calm = run.calm
        if node is None:
            path, place = failure(self.program, name, places, spared)
            raise CallFailed(name, path, place)
        return Result.from_row(rows_from(node), 0)

    def __call__(self, name, broken=()):
        return self.run(name, broken=broken)

    def peek(self, name):
        """Return the result of the cached node of the procedure."""
        check_procedure(self.program, name)
        if name not in self._nodes:
            raise NotCached(name)
        return Result.from_row(rows_from(self._nodes[name]), 0)

    def wrong(self):
        """Return the procedures of which a calm run would now return another result than the calm one."""
        unsound = NameSet([name for name, node in self._nodes.items() if not is_sound(node)])
        return NameSet([name for name in self.program.names if _meet(reached(self.program, name), unsound)])

    def copy(self):
        """Return an evaluator in the same state."""
        other = Evaluator(self.program, policy=self._policy, numbers=self._numbers)
        other._nodes = dict(self._nodes)
        other.readings = self.readings
        other.calm = self.calm
        return other

    def __getitem__(self, place):
        check_place(self.program, place)
        return self._numbers[place]

    def __setitem__(self, place, number):
        check_place(self.program, place)
        if number != self._numbers[place]:
            self._numbers[place] = number
            changed = readers(self.program, place)
            self._nodes = {name: node for name, node in self._nodes.items()
                           if not _meet(reached(self.program, name), changed)}

    # Without this, Python would iterate by evaluator[0], evaluator[1] and so on.
    def __iter__(self):
        raise TypeError("an evaluator is not iterated over: take what is cached")

    def __contains__(self, name):
        return name in self._nodes

    def __len__(self):
        return len(self._nodes)

    def __eq__(self, other):
        if not isinstance(other, Evaluator) or self.program != other.program or self._policy != other._policy:
            return False
        return self._numbers == other._numbers and _have_equal_results(self._nodes, other._nodes)


def _meet(names, others):
    return len(names & others) > 0


def _have_equal_results(nodes, others):
    """Tell whether two caches have the same procedures with equal results."""
    if NameSet(list(nodes)) != NameSet(list(others)):
        return False
    return all([difference_path(rows_from(node), rows_from(others[name])) is None for name, node in nodes.items()])
