"""Plain results: midfall/plain.py, points 11 and 13."""

import itertools
import unittest

from midfall.errors import CallFailed, UnknownPlace, UnknownProcedure
from midfall.namesets import NameSet
from midfall.plain import plain_result
from midfall.programs import Program
from midfall.results import Result

PROGRAM = Program.parse(
    "p: call q, read d, try r, say w\nq: try s, call p\nr: read e, call s\ns: read c, read d\n"
    "t: call t, call r, read d\nu:"
)


class PlainResultTest(unittest.TestCase):
    def assert_text(self, name, text, **world):
        result = plain_result(PROGRAM, name, **world)
        self.assertIsInstance(result, Result)
        self.assertEqual(result.text(), text)

    def test_no_broken_place(self):
        numbers = {"d": 1, "e": -2, "c": 3}
        self.assert_text("p", "0: @1 1 @2 w\n1: @3 @0\n2: -2 @3\n3: 3 1", numbers=numbers)
        self.assert_text("q", "0: @1 @2\n1: 3 1\n2: @0 1 @3 w\n3: -2 @1", numbers=numbers)
        self.assert_text("r", "0: -2 @1\n1: 3 1", numbers=numbers)
        self.assert_text("s", "0: 3 1", numbers=numbers)
        self.assert_text("t", "0: @0 @1 1\n1: -2 @2\n2: 3 1", numbers=numbers)
        self.assert_text("u", "0:", numbers=numbers)

    def test_numbers_for_some_places_or_for_none(self):
        self.assert_text("s", "0: 0 0")
        self.assert_text("s", "0: 0 0", numbers=None)
        self.assert_text("s", "0: 0 0", numbers={})
        self.assert_text("s", "0: 0 5", numbers={"d": 5})
        self.assert_text("s", "0: 7 0", numbers={"c": 7, "e": 9})
        for keys in itertools.permutations("cde"):
            self.assert_text("r", "0: 2 @1\n1: 0 1", numbers={place: "cde".index(place) for place in keys})

    def test_numbers_at_the_limit_and_beyond(self):
        for number in (10 ** 60 - 1, 1 - 10 ** 60, 10 ** 60, 10 ** 61, -(10 ** 61)):
            self.assertEqual(plain_result(PROGRAM, "s", numbers={"c": number}).rows(),
                             [[("number", number), ("number", 0)]])

    def test_gaps(self):
        self.assert_text("p", "0: @1 0 - w\n1: @2 @0\n2: 0 0", broken=["e"])
        self.assert_text("p", "0: @1 0 - w\n1: - @0", broken=["c"])
        self.assert_text("q", "0: - @1\n1: @0 0 - w", broken=["c"])
        self.assert_text("r", "0: 0 @1\n1: 0 0", broken=[])
        self.assert_text("u", "0:", broken=["c", "d", "e"])

    def test_spared_procedures(self):
        self.assert_text("p", "0: @1 0 @2 w\n1: @3 @0\n2: 0 @3\n3: 0 0", broken=["c", "d", "e"], spared=["p"])
        self.assert_text("p", "0: @1 0 @2 w\n1: - @0\n2: 0 @3\n3: 0 0", broken=["e", "c"], spared=["r"])
        self.assert_text("p", "0: @1 0 - w\n1: @2 @0\n2: 0 0", broken=["e", "c"], spared=["s"])
        self.assert_text("s", "0: 0 0", broken=["c", "d"], spared=["s"])

    def test_a_procedure_inside_and_outside_of_a_spared_one(self):
        program = Program.parse("p: call q, call r\nq: call r\nr: try s\ns: read d")
        result = plain_result(program, "p", broken=["d"], spared=["q"])
        self.assertEqual(result.text(), "0: @1 @2\n1: @3\n2: -\n3: @4\n4: 0")

    def test_equal_results_of_different_procedures(self):
        program = Program.parse("p: call q, try r\nq: call p, try q\nr: try p, call r")
        for name in ("p", "q", "r"):
            self.assertEqual(plain_result(program, name).rows(), [[("node", 0), ("node", 0)]])

    def test_empty_body_and_procedures_that_name_themselves(self):
        for body, text in (("", "0:"), (" call p", "0: @0"), (" try p", "0: @0"), (" say p, try p", "0: p @0")):
            self.assertEqual(plain_result(Program.parse(f"p:{body}"), "p").text(), text)

    def test_a_failed_try_of_itself(self):
        program = Program.parse("p: try p, read d")
        self.assertEqual(plain_result(program, "p").text(), "0: @0 0")
        with self.assertRaises(CallFailed):
            plain_result(program, "p", broken=["d"])

    def test_sixteen_procedures_with_twelve_steps(self):
        names = [chr(ord("a") + number) for number in range(16)]
        for kind in ("call", "try"):
            bodies = {name: [(kind, names[(at + step) % 16]) for step in range(1, 12)] + [("read", f"z{name}")]
                      for at, name in enumerate(names)}
            program = Program(list(bodies.items()))
            numbers = {f"z{name}": at for at, name in enumerate(names)}
            rows = plain_result(program, "c", numbers=numbers).rows()
            self.assertEqual([row[-1][1] for row in rows], [*range(2, 16), 0, 1])
            self.assertEqual([item[1] for item in rows[0][:11]], list(range(1, 12)))
            self.assertEqual(len(plain_result(program, "c", spared=names[::2]).rows()), 1)

    def test_most_procedures_inside_and_outside_of_a_spared_one(self):
        names = [chr(ord("a") + number) for number in range(13)]
        chain = [(name, [("call", after), ("say", name)]) for name, after in zip(names, names[1:])]
        others = [("m", [("try", "bad")]), ("bad", [("read", "d")]), ("calm", [("call", "a")])]
        program = Program([("p", [("call", "a"), ("call", "calm")])] + chain + others)
        rows = plain_result(program, "p", broken=["d"], spared=["calm"]).rows()
        self.assertEqual((len(program), len(rows)), (16, 29))
        self.assertEqual([row for row in rows if ("gap",) in row], [[("gap",)]])


class CallFailedTest(unittest.TestCase):
    def assert_failed(self, program, name, path, place, **world):
        with self.assertRaises(CallFailed) as context:
            plain_result(program, name, **world)
        error = context.exception
        self.assertIsInstance(error.path, tuple)
        self.assertEqual((error.name, error.path, error.place), (name, tuple(path), place))

    def test_ordinary_program(self):
        self.assert_failed(PROGRAM, "p", "p", "d", broken=["d"])
        self.assert_failed(PROGRAM, "q", "qp", "d", broken=["d"])
        self.assert_failed(PROGRAM, "r", "r", "e", broken=["d", "e"])
        self.assert_failed(PROGRAM, "r", "rs", "d", broken=["d"])
        self.assert_failed(PROGRAM, "s", "s", "c", broken=["d", "c"])
        self.assert_failed(PROGRAM, "t", "t", "d", broken=["d", "c", "e"])
        self.assert_failed(PROGRAM, "t", "trs", "c", broken=["c"])
        self.assert_failed(PROGRAM, "t", "tr", "e", broken=["e", "c"])

    def test_the_first_reading_of_a_broken_place_counts(self):
        program = Program.parse("p: read b, read d, read c, read d, read a")
        for broken, place in (("abcd", "b"), ("acd", "d"), ("ac", "c"), ("a", "a"), ("ad", "d")):
            self.assert_failed(program, "p", "p", place, broken=list(broken))

    def test_the_shortest_path_counts(self):
        program = Program.parse("p: call q, call r\nq: call s\nr: read d\ns: read d")
        self.assert_failed(program, "p", "pr", "d", broken=["d"])
        program = Program.parse("p: call q, read d\nq: read d")
        self.assert_failed(program, "p", "p", "d", broken=["d"])

    def test_the_earlier_call_step_counts(self):
        program = Program.parse(
            "p: call z, call b, call a\nz: say x\nb: call k, call c\na: read d\nk: read d\nc: read e"
        )
        self.assert_failed(program, "p", "pbc", "e", broken=["e"])
        self.assert_failed(program, "p", "pa", "d", broken=["d"])
        program = Program.parse(
            "p: try a, call b, call a, call b\na: call y, call x\nb: call x, call y\nx: read d\ny: read d"
        )
        self.assert_failed(program, "p", "pbx", "d", broken=["d"])
        self.assert_failed(program, "p", "pay", "d", broken=["d"], spared=["b"])
        self.assert_failed(program, "p", "pby", "d", broken=["d"], spared=["x"])

    def test_neither_program_order_nor_the_alphabet_counts(self):
        for first, second in itertools.permutations("ab"):
            program = Program.parse(f"b: read d\np: call {first}, call {second}\na: read d")
            self.assert_failed(program, "p", "p" + first, "d", broken=["d"])

    def test_rings(self):
        program = Program.parse("p: call p, call q\nq: call p, call r\nr: call q, read d")
        self.assert_failed(program, "p", "pqr", "d", broken=["d"])
        self.assert_failed(program, "r", "r", "d", broken=["d"])

    def test_spared_procedures_are_not_on_the_path(self):
        program = Program.parse("p: call q, call r, call s\nq: read d\nr: call q\ns: call r, call t\nt: read d")
        self.assert_failed(program, "p", "pq", "d", broken=["d"])
        self.assert_failed(program, "p", "pst", "d", broken=["d"], spared=["q"])
        self.assert_failed(program, "p", "pst", "d", broken=["d"], spared=["q", "r"])
        for spared in (["p"], ["q", "t"], ["q", "s"], ["q", "s", "t", "r"]):
            self.assertIsInstance(plain_result(program, "p", broken=["d"], spared=spared), Result)

    def test_the_longest_path(self):
        names = [chr(ord("a") + number) for number in range(16)]
        program = Program([(name, [("call", name), ("call", after)]) for name, after in zip(names, names[1:])]
                          + [("p", [("call", "a"), ("read", "d")])])
        self.assert_failed(program, "a", names, "d", broken=["d"])

    def test_a_try_ends_no_path(self):
        program = Program.parse("p: try q, call r\nq: read d\nr: try q")
        self.assertEqual(plain_result(program, "p", broken=["d"]).text(), "0: - @1\n1: -")


class UnknownTest(unittest.TestCase):
    def assert_unknown(self, error_class, unknown, *arguments, **world):
        with self.assertRaises(error_class) as context:
            plain_result(PROGRAM, *arguments, **world)
        self.assertEqual(vars(context.exception), vars(error_class(unknown)))

    def test_name(self):
        for name in ("none", "", "P", "d", "w", "ninechars", "p ", "pp"):
            self.assert_unknown(UnknownProcedure, name, name)
            self.assert_unknown(UnknownProcedure, name, name, spared=["a"], numbers={"a": 1}, broken=["a", "d"])

    def test_spared(self):
        for spared in itertools.permutations(["p", "zz", "d", "e"]):
            for kind in (list, tuple, NameSet):
                self.assert_unknown(UnknownProcedure, "d", "p", spared=kind(spared), numbers={"p": 1}, broken=["p"])
        self.assert_unknown(UnknownProcedure, "", "s", spared=["x", "", "zz"], broken=["c"])

    def test_numbers(self):
        for keys in itertools.permutations(["d", "zz", "p", "q"]):
            self.assert_unknown(UnknownPlace, "p", "s", numbers=dict.fromkeys(keys, 1), broken=["a", "c"])
        self.assert_unknown(UnknownPlace, "D", "u", numbers={"D": 0, "c": 1})
        self.assert_unknown(UnknownPlace, "w", "u", numbers={"w": 0})

    def test_broken(self):
        for broken in itertools.permutations(["c", "zz", "p", "q"]):
            for kind in (list, tuple, NameSet):
                self.assert_unknown(UnknownPlace, "p", "s", broken=kind(broken), numbers={"d": 1}, spared=["p"])
        self.assert_unknown(UnknownPlace, "", "s", broken=["zz", "", "c"])

    def test_unknown_names_come_before_the_failed_call(self):
        self.assert_unknown(UnknownPlace, "a", "s", broken=["c", "a"])
        self.assert_unknown(UnknownPlace, "a", "s", broken=["c"], numbers={"a": 1})
        self.assert_unknown(UnknownProcedure, "a", "s", broken=["c"], spared=["a"])


class ArgumentsTest(unittest.TestCase):
    def test_each_kind_of_set(self):
        expected = plain_result(PROGRAM, "p", broken=["c", "e"], spared=["r", "u"])
        for broken in (["e", "c", "e"], ("c", "e"), NameSet(["e", "c"])):
            for spared in (["u", "r", "u"], ("r", "u"), NameSet(["r", "u"])):
                self.assertEqual(plain_result(PROGRAM, "p", broken=broken, spared=spared), expected)
        for broken in (["e", "d", "e"], ("d", "e"), NameSet(["e", "d"])):
            with self.assertRaises(CallFailed) as context:
                plain_result(PROGRAM, "r", broken=broken)
            self.assertEqual((context.exception.path, context.exception.place), (("r",), "e"))

    def test_arguments_stay_and_later_changes_have_no_effect(self):
        numbers, broken, spared = {"e": 2, "c": 1}, ["e", "c", "e"], ["u", "r", "u"]
        text = PROGRAM.text()
        result = plain_result(PROGRAM, "p", numbers=numbers, broken=broken, spared=spared)
        with self.assertRaises(CallFailed):
            plain_result(PROGRAM, "s", numbers=numbers, broken=broken, spared=spared)
        self.assertEqual(list(numbers.items()), [("e", 2), ("c", 1)])
        self.assertEqual((broken, spared), (["e", "c", "e"], ["u", "r", "u"]))
        self.assertEqual(PROGRAM.text(), text)
        before = result.text()
        numbers["e"] = 9
        broken.clear()
        spared[0] = "p"
        result.rows()[0].clear()
        self.assertEqual(result.text(), before)
        self.assertEqual(plain_result(PROGRAM, "p").text(), "0: @1 0 @2 w\n1: @3 @0\n2: 0 @3\n3: 0 0")

    def test_the_same_answer_again(self):
        for _ in range(3):
            self.assertEqual(plain_result(PROGRAM, "q", broken=["c"]).text(), "0: - @1\n1: @0 0 - w")
            with self.assertRaises(CallFailed):
                plain_result(PROGRAM, "t", broken=["c"])

    def test_arguments_by_name(self):
        result = plain_result(program=PROGRAM, name="s", numbers={"c": 1}, broken=(), spared=())
        self.assertEqual(result.text(), "0: 1 0")
        self.assertEqual(plain_result.__module__, "midfall.plain")
        with self.assertRaises(TypeError):
            plain_result(PROGRAM, "s", {"c": 1})


if __name__ == "__main__":
    unittest.main()
