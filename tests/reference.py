"""Direct readings of the document for the tests alone; nothing here uses the package but Program."""

import itertools
import random

from midfall.programs import Program

CALLING = ("call", "try")


def subsets(names):
    """Return all subsets, as lists."""
    return [list(chosen) for size in range(len(names) + 1) for chosen in itertools.combinations(names, size)]


def random_program(seed, procedures=4, steps=3, places=2, words=2):
    """Return a program with up to so many procedures and steps; the same one for the same numbers."""
    chance = random.Random(seed)
    names = ["p", "q", "r", "s", "t", "u"][:chance.randint(1, procedures)]
    chance.shuffle(names)
    pools = {"read": ["d", "e", "f"][:places], "say": ["x", "p"][:words], "call": names, "try": names}
    kinds = chance.choice([list(pools), ["read", "call", "try"], ["read", "call", "call", "say"], ["call", "try"]])
    bodies = []
    for name in names:
        chosen = [chance.choice(kinds) for _ in range(chance.randint(0, steps))]
        bodies.append((name, [(kind, chance.choice(pools[kind])) for kind in chosen]))
    return Program(bodies)


def full_program(seed):
    """Return a program of 16 procedures with 12 steps each."""
    chance = random.Random(seed)
    names = [chr(ord("a") + number) for number in range(16)]
    steps = [("read", f"d{name}") for name in names] + [("say", "x")] + [("call", name) for name in names]
    steps += [("try", name) for name in names]
    return Program([(name, [chance.choice(steps) for _ in range(12)]) for name in names])


# Point 5.

def leads_to(program, name, kinds):
    """Return the set of the procedures that chains of steps of these kinds lead to."""
    found = {name}
    for _ in program.names:
        found |= {word for member in found for kind, word in program[member] if kind in kinds}
    return found


def is_closed(program, names):
    return all(leads_to(program, name, CALLING) <= set(names) for name in names)


# Points 11 and 13.

def bad_procedures(program, broken, spared):
    """Return the smallest set with the property of point 11, found among all sets."""
    for names in subsets(program.names):
        if all(name in spared or name in names or not _must_be_bad(program[name], broken, names)
               for name in program.names):
            return set(names)
    raise AssertionError("the set of all procedures has the property")


def _must_be_bad(body, broken, bad):
    return any(kind == "read" and word in broken or kind == "call" and word in bad for kind, word in body)


def failing_path(program, name, broken, spared):
    """Return the path and the place of point 13, found among all paths of each length, or None."""
    paths = [((), (name,))]
    for _ in program.names:
        failing = [(steps, path) for steps, path in paths if not set(path) & set(spared)
                   and any(kind == "read" and place in broken for kind, place in program[path[-1]])]
        if failing:
            path = min(failing)[1]
            places = [place for kind, place in program[path[-1]] if kind == "read" and place in broken]
            return path, places[0]
        paths = [(steps + (at,), path + (word,)) for steps, path in paths
                 for at, (kind, word) in enumerate(program[path[-1]]) if kind == "call"]
    return None


def plain_difference(rows, program, name, numbers, broken, spared):
    """Return a path at which the rows are not the plain result of the procedure, or None if they are it."""
    bad = bad_procedures(program, broken, spared)
    known = set()
    waiting = [(0, name, name in spared, ())]
    while waiting:
        index, procedure, calm, path = waiting.pop()
        if (index, procedure, calm) in known:
            continue
        known.add((index, procedure, calm))
        if len(rows[index]) != len(program[procedure]):
            return path
        for at, (kind, word) in enumerate(program[procedure]):
            item = rows[index][at]
            if kind == "read":
                agrees = item == ("number", numbers.get(word, 0))
            elif kind == "say":
                agrees = item == ("word", word)
            elif kind == "try" and not calm and word in bad:
                agrees = item == ("gap",)
            else:
                agrees = item[0] == "node"
                waiting.append((item[-1], word, calm or word in spared, path + (at,)))
            if not agrees:
                return path + (at,)
    return None


# Points 8, 9 and 10.

def different_pairs(rows):
    """Return the pairs of indexes of rows with different results, found from those that differ at once."""
    indexes = range(len(rows))
    different = {(one, two) for one in indexes for two in indexes if _shape(rows[one]) != _shape(rows[two])}
    grown = True
    while grown:
        more = {(one, two) for one in indexes for two in indexes if (one, two) not in different and any(
            (left[1], right[1]) in different for left, right in zip(rows[one], rows[two]) if left[0] == "node")}
        different |= more
        grown = bool(more)
    return different


def _shape(row):
    return [item[0] if item[0] == "node" else item for item in row]


def expected_rows(rows):
    """Return the rows of point 9 of the result of row 0."""
    different = different_pairs(rows)
    order = [0]
    for row in order:
        for item in rows[row]:
            if item[0] == "node" and all((known, item[1]) in different for known in order):
                order.append(item[1])
    place = {index: at for index in range(len(rows)) for at, known in enumerate(order)
             if (index, known) not in different}
    return [[("node", place[item[1]]) if item[0] == "node" else item for item in rows[row]] for row in order]


def expected_difference(rows, others):
    """Return the first path of all paths, by length and then in order, at which two results differ, or None."""
    prefixes = [((), 0, 0)]
    for _ in range(len(rows) + len(others)):
        longer = []
        for path, one, other in prefixes:
            left, right = rows[one], others[other]
            for at in range(max(len(left), len(right))):
                if at >= len(left) or at >= len(right):
                    return path + (at,)
                if left[at][0] == right[at][0] == "node":
                    longer.append((path + (at,), left[at][1], right[at][1]))
                elif left[at] != right[at]:
                    return path + (at,)
        prefixes = longer
    return None


def random_rows(seed, rows=4, items=3):
    """Return valid rows, often with several rows of equal results and with rings."""
    chance = random.Random(seed)
    count = chance.randint(1, rows)
    leaves = [("number", 0), ("number", -7), ("word", "x"), ("gap",)][:chance.randint(1, 4)]
    made = []
    for _ in range(count):
        row = []
        for _ in range(chance.randint(0, items)):
            node = ("node", chance.randrange(count))
            row.append(node if chance.random() < 0.6 else chance.choice(leaves))
        made.append(row)
    return made


# Points 6, 7 and 22.

def call_rows(program, name, numbers):
    """Return the rows of all nodes of a run without a cache and without broken places: points 6 and 7."""
    rows = []
    waiting = []

    def call(procedure):
        index = len(rows)
        rows.append([])
        waiting.append((procedure, index))
        for kind, word in program[procedure]:
            if kind == "read":
                rows[index].append(("number", numbers.get(word, 0)))
            elif kind == "say":
                rows[index].append(("word", word))
            elif word in dict(waiting):
                rows[index].append(("node", dict(waiting)[word]))
            else:
                rows[index].append(("node", call(word)))
        waiting.pop()
        return index

    call(name)
    return rows


def expected_trace(program, name):
    """Return the trace from the empty cache: each step is looked up in what has happened so far."""
    events = [("start", name)]
    calls = [(name, iter(program[name]))]
    while calls:
        procedure, steps = calls[-1]
        kind, word = next(steps, ("end", None))
        if kind == "end":
            events.append(("end", procedure))
            calls.pop()
        elif kind == "read":
            events.append(("read", procedure, word))
        elif kind in CALLING and ("end", word) in events:
            events.append(("reuse", procedure, word))
        elif kind in CALLING and ("start", word) in events:
            events.append(("cycle", procedure, word))
        elif kind in CALLING:
            events.append(("start", word))
            calls.append((word, iter(program[word])))
    return events


def trace_with_cached(program, name, cached):
    """Return the trace from the empty cache as point 22 changes it for a closed set of cached procedures."""
    events = []
    waiting = []
    for event in expected_trace(program, name):
        kind, procedure = event[:2]
        if kind == "start":
            # A cached procedure that another one calls: the step of that one names a cached procedure.
            if procedure in cached and waiting and waiting[-1] not in cached:
                events.append(("reuse", waiting[-1], procedure))
            waiting.append(procedure)
        if procedure not in cached:
            events.append(event)
        if kind == "end":
            waiting.pop()
    return events
