"""Runs of an evaluator: the calls of one run, and what is cached while it lasts and when it ends."""

from midfall.nodes import Node, is_sound, numbered_nodes
from midfall.policies import CarefulPolicy, EagerPolicy, TrailPolicy
from midfall.rows import GAP


class Run:
    """A run in progress. The dicts that it is passed are not changed; `cache` is what the cache is by now."""

    def __init__(self, program, policy, numbers, broken, cache):
        self.program = program
        self.caching = policy
        self.numbers = numbers
        self.broken = broken
        self.cache = dict(cache)
        # The nodes of the open calls.
        self.pending = {}
        # The nodes that have completed in this run, are not cached and have not been dropped.
        self.kept = {}
        self.failed = {}
        self.added = []
        self.readings = []
        self.calm = True

    def ask(self, name):
        """Return the node of a procedure, or None if the procedure fails."""
        if name in self.cache:
            return self.cache[name]
        if name in self.pending:
            return self.pending[name]
        if name in self.failed:
            return None
        if name in self.kept:
            return self.kept[name]
        return self.call(name)

    def call(self, name):
        """Call a procedure; return its node, or None if the call fails."""
        node = Node()
        self.pending[name] = node
        for kind, word in self.program[name]:
            item = self.step(name, kind, word)
            if item is None:
                self.fail(name)
                return None
            node.row.append(item)
        self.complete(name)
        return node

    def step(self, name, kind, word):
        """Execute a step of a procedure; return its item, or None if the step makes the call fail."""
        if kind == "read":
            return self.read(name, word)
        if kind == "say":
            return "word", word
        node = self.ask(word)
        if node is not None:
            return "node", node
        return GAP if kind == "try" else None

    def read(self, name, place):
        """Return the item of a reading, or None if the reading fails."""
        if self.calm:
            self.readings.append((name, place))
        if place not in self.broken:
            return "number", self.numbers[place]
        if self.calm:
            self.calm = False
            self.uncache()
        return None

    def uncache(self):
        """Remove from the cache what the policy says of the first reading that fails."""
        for name in self.removable():
            self.kept[name] = self.cache.pop(name)

    def removable(self):
        """Return the procedures whose nodes the first reading that fails removes from the cache."""
        if isinstance(self.caching, TrailPolicy):
            return self.added
        if isinstance(self.caching, EagerPolicy):
            marks = self.caching.marks
            return [name for name in self.cache if name in marks and self.leads_to_pending(self.cache[name])]
        return []

    def leads_to_pending(self, node):
        """Tell whether the node of an open call can be reached from a node."""
        found = numbered_nodes(node)
        return any([pending in found for pending in self.pending.values()])

    def fail(self, name):
        """End a call that fails."""
        failed = self.pending.pop(name)
        self.failed[name] = True
        self.kept = {other: node for other, node in self.kept.items() if failed not in numbered_nodes(node)}

    def complete(self, name):
        """End a call that has executed all steps."""
        node = self.pending.pop(name)
        node.completed = True
        if self.calm and not isinstance(self.caching, CarefulPolicy):
            self.cache[name] = node
            self.added.append(name)
        else:
            self.kept[name] = node

    def end(self):
        """End the run: cache what the careful policy caches then."""
        if isinstance(self.caching, CarefulPolicy):
            for name, node in self.kept.items():
                if is_sound(node):
                    self.cache[name] = node
