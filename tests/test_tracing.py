"""Traces of fresh runs: midfall/tracing.py, point 22, and the calls of points 6 and 7."""

import inspect
import itertools
import unittest

from midfall.errors import UnknownProcedure
from midfall.graphs import closure
from midfall.namesets import NameSet
from midfall.programs import Program
from midfall.tracing import trace
from tests.reference import expected_trace, full_program, is_closed, random_program, subsets, trace_with_cached

PROGRAM = Program.parse(
    "p: say x, call q, read d, try r, call r, call p\nq: try p, read e, read e, call r\nr: read c, call r\ns:\n"
    "t: try s, try s, call q"
)
TRACE_OF_R = [("start", "r"), ("read", "r", "c"), ("cycle", "r", "r"), ("end", "r")]


def programs():
    return [random_program(seed, procedures=5, steps=4) for seed in range(200)] + [PROGRAM]


class TraceTest(unittest.TestCase):
    def test_ordinary_program(self):
        self.assertEqual(list(trace(PROGRAM, "r")), TRACE_OF_R)
        self.assertEqual(list(trace(PROGRAM, "p")), [
            ("start", "p"), ("start", "q"), ("cycle", "q", "p"), ("read", "q", "e"), ("read", "q", "e"), *TRACE_OF_R,
            ("end", "q"), ("read", "p", "d"), ("reuse", "p", "r"), ("reuse", "p", "r"), ("cycle", "p", "p"),
            ("end", "p"),
        ])
        self.assertEqual(list(trace(PROGRAM, "t"))[:4],
                         [("start", "t"), ("start", "s"), ("end", "s"), ("reuse", "t", "s")])

    def test_empty_body_and_words(self):
        self.assertEqual(list(trace(PROGRAM, "s")), [("start", "s"), ("end", "s")])
        self.assertEqual(list(trace(Program.parse("p: say p, say q\nq:"), "p")), [("start", "p"), ("end", "p")])

    def test_procedures_that_name_themselves(self):
        for kind in ("call", "try"):
            program = Program.parse(f"p: {kind} p, read p, {kind} p")
            self.assertEqual(list(trace(program, "p")), [
                ("start", "p"), ("cycle", "p", "p"), ("read", "p", "p"), ("cycle", "p", "p"), ("end", "p"),
            ])

    def test_a_ring_of_sixteen(self):
        names = [chr(ord("a") + number) for number in range(16)]
        program = Program([(name, [("call", after), ("try", after)]) for name, after in zip(names, names[1:] + ["a"])])
        starts = [("start", name) for name in names]
        ends = [event for at in range(14, -1, -1)
                for event in (("end", names[at + 1]), ("reuse", names[at], names[at + 1]))]
        self.assertEqual(list(trace(program, "a")),
                         starts + [("cycle", "p", "a")] * 2 + ends + [("end", "a")])

    def test_a_call_that_is_open_and_one_that_is_cached(self):
        """The same procedure gives a cycle while its call is open, and is reused afterwards."""
        program = Program.parse("a: call b, call c\nb: call c\nc: call b, read d")
        self.assertEqual(list(trace(program, "a")), [
            ("start", "a"), ("start", "b"), ("start", "c"), ("cycle", "c", "b"), ("read", "c", "d"), ("end", "c"),
            ("end", "b"), ("reuse", "a", "c"), ("end", "a"),
        ])

    def test_many_programs(self):
        for program in programs() + [full_program(seed) for seed in range(10)]:
            for name in program.names:
                self.assertEqual(list(trace(program, name)), expected_trace(program, name), program.text())

    def test_kinds_of_the_values(self):
        events = trace(PROGRAM, "p")
        self.assertTrue(inspect.isgenerator(events))
        for event in events:
            self.assertIsInstance(event, tuple)
            self.assertIn((event[0], len(event)),
                          [("start", 2), ("read", 3), ("cycle", 3), ("reuse", 3), ("end", 2)])


class CachedTest(unittest.TestCase):
    def test_ordinary_program(self):
        self.assertEqual(list(trace(PROGRAM, "p", cached=["r", "s"])), [
            ("start", "p"), ("start", "q"), ("cycle", "q", "p"), ("read", "q", "e"), ("read", "q", "e"),
            ("reuse", "q", "r"), ("end", "q"), ("read", "p", "d"), ("reuse", "p", "r"), ("reuse", "p", "r"),
            ("cycle", "p", "p"), ("end", "p"),
        ])
        self.assertEqual(list(trace(PROGRAM, "t", cached=["s", "p", "q", "r"])), [
            ("start", "t"), ("reuse", "t", "s"), ("reuse", "t", "s"), ("reuse", "t", "q"), ("end", "t"),
        ])

    def test_every_closed_set_of_many_programs(self):
        for program in programs():
            for cached in subsets(program.names):
                if is_closed(program, cached):
                    for name in program.names:
                        self.assertEqual(list(trace(program, name, cached=cached)),
                                         trace_with_cached(program, name, cached), (program.text(), name, cached))

    def test_full_programs(self):
        steps = {chr(ord("a") + at): [("try", chr(ord("a") + other)) for other in range(at, 16)] for at in range(4, 16)}
        chain = {name: [("call", after), ("read", "d")] for name, after in zip("abcd", "bcde")}
        program = Program(list({**chain, **steps}.items()))
        for start in "abcdefghijklmnop":
            cached = closure(program, [start])
            for name in program.names:
                self.assertEqual(list(trace(program, name, cached=cached)),
                                 trace_with_cached(program, name, cached.members))

    def test_no_events_for_a_cached_procedure(self):
        for name in ("p", "q", "r"):
            self.assertEqual(list(trace(PROGRAM, name, cached=["p", "q", "r"])), [])
        self.assertEqual(list(trace(PROGRAM, "s", cached=PROGRAM.names)), [])

    def test_nothing_cached(self):
        for cached in ((), [], NameSet()):
            self.assertEqual(list(trace(PROGRAM, "p", cached=cached)), list(trace(PROGRAM, "p")))

    def test_each_kind_of_set(self):
        expected = list(trace(PROGRAM, "t", cached=["r", "s"]))
        for cached in (["s", "r", "s"], ("r", "s"), NameSet(["s", "r"])):
            self.assertEqual(list(trace(PROGRAM, "t", cached=cached)), expected)


class GoingThroughTest(unittest.TestCase):
    def test_traces_at_the_same_time(self):
        program = full_program(3)
        calls = [("a", ()), ("b", ()), ("a", ()), ("c", closure(program, ["a"]))]
        alone = [list(trace(program, name, cached=cached)) for name, cached in calls]
        traces = [trace(program, name, cached=cached) for name, cached in calls]
        rounds = list(itertools.zip_longest(*traces))
        for expected, events in zip(alone, zip(*rounds)):
            self.assertEqual([event for event in events if event is not None], expected)

    def test_a_trace_in_a_trace(self):
        for event in trace(PROGRAM, "p"):
            self.assertEqual(list(trace(PROGRAM, "r")), TRACE_OF_R)

    def test_a_trace_that_is_left(self):
        events = trace(PROGRAM, "p")
        next(events)
        events.close()
        self.assertEqual(list(trace(PROGRAM, "p")), expected_trace(PROGRAM, "p"))

    def test_arguments_stay_and_later_changes_have_no_effect(self):
        cached = ["s", "r", "s"]
        text = PROGRAM.text()
        expected = list(trace(PROGRAM, "t", cached=cached))
        self.assertEqual((cached, PROGRAM.text()), (["s", "r", "s"], text))
        events = trace(PROGRAM, "t", cached=cached)
        found = [next(events)]
        cached[:] = ["q", "p", "r", "none"]
        found += events
        self.assertEqual(found, expected)
        found.clear()
        self.assertEqual(list(trace(PROGRAM, "t", cached=("s", "r"))), expected)


class UnknownTest(unittest.TestCase):
    def assert_unknown(self, unknown, name, **cached):
        events = trace(PROGRAM, name, **cached)
        with self.assertRaises(UnknownProcedure) as context:
            next(events)
        self.assertEqual(context.exception.name, unknown)

    def test_name(self):
        for name in ("none", "", "P", "d", "x", "ninechars", "p ", "pp"):
            self.assert_unknown(name, name)
            self.assert_unknown(name, name, cached=["a", name, "r"])

    def test_cached(self):
        for cached in itertools.permutations(["r", "zz", "d", "e"]):
            for kind in (list, tuple, NameSet):
                self.assert_unknown("d", "p", cached=kind(cached))
                self.assert_unknown("d", "r", cached=kind(cached))
        self.assert_unknown("", "p", cached=["p", "P", ""])


class InterfaceTest(unittest.TestCase):
    def test_arguments_by_name(self):
        self.assertEqual(list(trace(program=PROGRAM, name="r", cached=())), TRACE_OF_R)
        self.assertEqual(trace.__module__, "midfall.tracing")
        self.assertTrue(inspect.isgeneratorfunction(trace))
        with self.assertRaises(TypeError):
            trace(PROGRAM, "r", ())


if __name__ == "__main__":
    unittest.main()
