"""What procedures reach, require and read: midfall/graphs.py, point 5 and the breaks of point 13."""

import itertools
import unittest

from midfall.errors import UnknownPlace, UnknownProcedure
from midfall.graphs import breaks, closure, reached, readers, required
from midfall.namesets import NameSet
from midfall.programs import Program
from tests.reference import CALLING, bad_procedures, full_program, is_closed, leads_to, random_program, subsets

PROGRAM = Program.parse(
    "p: call q, read d\nq: try r, say u, read c, read d\nr: call s, try r\ns:\nt: call p, call t, read t\nu: read c"
)
UNKNOWN = ("none", "", "P", "pp", "d", "x", "ninechars", "p ", "p\n", "0")
ALL = ("p", "q", "r", "s", "t", "u")


def programs(count=150, **limits):
    return [random_program(seed, **limits) for seed in range(count)] + [PROGRAM]


class ReachTest(unittest.TestCase):
    def assert_members(self, nameset, names):
        self.assertIsInstance(nameset, NameSet)
        self.assertEqual(nameset.members, tuple(sorted(names)))

    def test_ordinary_program(self):
        expected = {"p": "pqrs", "q": "qrs", "r": "rs", "s": "s", "t": "pqrst", "u": "u"}
        for name, names in expected.items():
            self.assert_members(reached(PROGRAM, name), names)
        expected = {"p": "pq", "q": "q", "r": "rs", "s": "s", "t": "pqt", "u": "u"}
        for name, names in expected.items():
            self.assert_members(required(PROGRAM, name), names)

    def test_empty_body_and_procedures_that_name_themselves(self):
        for body in ("", " call p", " try p", " say q, read q"):
            program = Program.parse(f"p:{body}\nq: read d")
            self.assert_members(reached(program, "p"), "p")
            self.assert_members(required(program, "p"), "p")

    def test_words_and_places_lead_nowhere(self):
        program = Program.parse("p: say q, read q\nq:")
        self.assert_members(reached(program, "p"), "p")
        self.assert_members(closure(program, ["p"]), "p")

    def test_long_chains_and_rings(self):
        names = [chr(ord("a") + number) for number in range(16)]
        for ring, kind in itertools.product((False, True), CALLING):
            bodies = [[(kind, name)] for name in names[1:]] + [[(kind, "a")] if ring else []]
            program = Program(list(zip(names, bodies)))
            for at, name in enumerate(names):
                behind = names if ring else names[at:]
                self.assert_members(reached(program, name), behind)
                self.assert_members(closure(program, [name]), behind)
                self.assert_members(required(program, name), behind if kind == "call" else [name])

    def test_many_programs(self):
        for program in programs() + [full_program(1)]:
            for _, name in itertools.product(range(2), program.names):
                self.assert_members(reached(program, name), leads_to(program, name, CALLING))
                self.assert_members(required(program, name), leads_to(program, name, ("call",)))

    def test_unknown_procedure(self):
        for function, name in itertools.product((reached, required), UNKNOWN):
            text = PROGRAM.text()
            with self.assertRaises(UnknownProcedure) as context:
                function(PROGRAM, name)
            self.assertEqual((context.exception.name, PROGRAM.text()), (name, text))


class ClosureTest(unittest.TestCase):
    def test_ordinary_program(self):
        for names, expected in ((["p"], "pqrs"), (["s", "u"], "su"), (["r", "p"], "pqrs"), (["t", "u"], ALL)):
            self.assertEqual(closure(PROGRAM, names).members, tuple(expected))

    def test_empty_set(self):
        for names in ([], (), NameSet()):
            self.assertEqual(closure(PROGRAM, names), NameSet())

    def test_smallest_closed_set_of_many_programs(self):
        for program in programs():
            closed = [set(names) for names in subsets(program.names) if is_closed(program, names)]
            for names in subsets(program.names):
                smallest = min((other for other in closed if set(names) <= other), key=len)
                found = closure(program, names)
                self.assertEqual(found.members, tuple(sorted(smallest)))
                self.assertEqual(closure(program, found), found)

    def test_each_kind_of_set(self):
        for names in (["u", "p", "u"], ("p", "u"), ("u", "p", "p"), NameSet(["p", "u"])):
            self.assertEqual(closure(PROGRAM, names).members, ("p", "q", "r", "s", "u"))

    def test_arguments_stay_and_later_changes_have_no_effect(self):
        names = ["u", "s", "u"]
        found = closure(PROGRAM, names)
        self.assertEqual(names, ["u", "s", "u"])
        names[0] = "t"
        self.assertEqual(found.members, ("s", "u"))

    def test_least_unknown_procedure(self):
        for names, least in ((["zz", "p", "none", "pp"], "none"), (("d", "", "p"), ""), (["P", "none"], "P")):
            for order in itertools.permutations(names):
                for kind in (list, tuple, NameSet):
                    with self.assertRaises(UnknownProcedure) as context:
                        closure(PROGRAM, kind(order))
                    self.assertEqual(context.exception.name, least)


class ReadersTest(unittest.TestCase):
    def test_ordinary_program(self):
        for place, names in (("c", ("q", "u")), ("d", ("p", "q")), ("t", ("t",))):
            found = readers(PROGRAM, place)
            self.assertIsInstance(found, NameSet)
            self.assertEqual(found.members, names)

    def test_many_programs(self):
        for program in programs() + [full_program(2)]:
            for place in program.places:
                names = [name for name in program.names if ("read", place) in program[name]]
                self.assertEqual(readers(program, place).members, tuple(sorted(names)))

    def test_no_readers(self):
        for place in ("p", "q", "u", "none", "", "D", "dd", "d ", "ninechars"):
            with self.assertRaises(UnknownPlace) as context:
                readers(PROGRAM, place)
            self.assertEqual(context.exception.place, place)
        with self.assertRaises(UnknownPlace):
            readers(Program.parse("p:"), "d")


class BreaksTest(unittest.TestCase):
    def test_ordinary_program(self):
        expected = {"p": "cd", "q": "cd", "r": "", "s": "", "t": "cdt", "u": "c"}
        for name, places in expected.items():
            found = breaks(PROGRAM, name)
            self.assertIsInstance(found, NameSet)
            self.assertEqual(found.members, tuple(places))

    def test_spared_procedures(self):
        for name, spared, places in (("p", ["q"], "d"), ("p", ["p"], ""), ("t", ["p"], "t"), ("t", ["q"], "dt"),
                                     ("t", ["q", "p", "t"], ""), ("u", ["p"], "c"), ("u", [], "c")):
            self.assertEqual(breaks(PROGRAM, name, spared=spared).members, tuple(places), (name, spared))

    def test_two_ways_of_which_one_is_spared(self):
        program = Program.parse("p: call q, call r\nq: call s\nr: call s\ns: read d")
        for spared, places in ((["q"], ("d",)), (["r"], ("d",)), (["q", "r"], ()), (["s"], ())):
            self.assertEqual(breaks(program, "p", spared=spared).members, places)

    def test_rings(self):
        program = Program.parse("p: call q, read c\nq: call p, call q, read d")
        for name in ("p", "q"):
            self.assertEqual(breaks(program, name).members, ("c", "d"))
        self.assertEqual(breaks(program, "p", spared=["q"]).members, ("c",))

    def test_the_run_fails_if_and_only_if_a_break_is_broken(self):
        for program in programs(60, places=3):
            for spared, broken in itertools.product(subsets(program.names), subsets(program.places)):
                bad = bad_procedures(program, broken, spared)
                for name in program.names:
                    found = breaks(program, name, spared=spared)
                    self.assertIs(bool(set(found.members) & set(broken)), name in bad)

    def test_spared_left_out_and_each_kind_of_set(self):
        self.assertEqual(breaks(PROGRAM, "t"), breaks(PROGRAM, "t", spared=[]))
        for spared in (["q", "u", "q"], ("u", "q"), NameSet(["q", "u"])):
            self.assertEqual(breaks(PROGRAM, "t", spared=spared).members, ("d", "t"))

    def test_arguments_stay(self):
        spared = ["u", "q", "u"]
        found = breaks(PROGRAM, "t", spared=spared)
        self.assertEqual(spared, ["u", "q", "u"])
        spared[1] = "t"
        self.assertEqual(found.members, ("d", "t"))

    def test_unknown_procedures_in_order(self):
        for name, spared, unknown in (("zz", ["a"], "zz"), ("p", ["zz", "p", "b", "c"], "b"), ("d", [], "d"),
                                      ("zz", [], "zz"), ("u", ("x", "", "zz"), "")):
            with self.assertRaises(UnknownProcedure) as context:
                breaks(PROGRAM, name, spared=spared)
            self.assertEqual(context.exception.name, unknown)


class InterfaceTest(unittest.TestCase):
    def test_functions_stand_in_the_module(self):
        for function in (reached, required, closure, readers, breaks):
            self.assertEqual(function.__module__, "midfall.graphs")

    def test_arguments_by_name(self):
        self.assertEqual(reached(program=PROGRAM, name="s").members, ("s",))
        self.assertEqual(required(program=PROGRAM, name="s").members, ("s",))
        self.assertEqual(closure(program=PROGRAM, names=["s"]).members, ("s",))
        self.assertEqual(readers(program=PROGRAM, place="t").members, ("t",))
        self.assertEqual(breaks(program=PROGRAM, name="u", spared=()).members, ("c",))
        with self.assertRaises(TypeError):
            breaks(PROGRAM, "u", ())


if __name__ == "__main__":
    unittest.main()
