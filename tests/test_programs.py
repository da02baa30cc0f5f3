"""Programs made from lists and tuples: midfall/programs.py, points 2 and 3."""

import copy
import itertools
import unittest

from midfall.errors import InvalidProgram, UnknownProcedure
from midfall.namesets import NameSet
from midfall.programs import Program

PROCEDURES = [
    ("p", [("call", "w"), ("read", "d"), ("say", "x"), ("read", "b"), ("read", "d")]),
    ("a", []),
    ("w", [("try", "p"), ("call", "w"), ("read", "w"), ("say", "a"), ("try", "z")]),
    ("z", [("say", "p")]),
]
NAMES = ["a", "z", "az", "za", "read", "say", "call", "try", "abcdefgh", "zzzzzzzz", "aaaaaaaa"]
NOT_NAMES = [
    "", "ninechars", "abcdefghi", "A", "aB", "Ab", "a b", " a", "a ", " ", "a1", "1", "a_b", "_", "a-b",
    "a,", "a:", "a\n", "\n", "a\t", "`", "{", "a`", "{a", "@", "[", "\u00e9", "\u00df", "\uff41", "\u0430",
    "a\u0301", "\u00aa", 1, 0, -1, True, False, None, b"a", ("a",), ["a"], NameSet(["a"]),
]
NOT_KINDS = [
    "", "Read", "READ", "reads", "rea", " read", "read ", "node", "word", "gap", "run", "set", "p", "d",
    None, 0, 1, True, b"read", ("read",), ["read"],
]
KINDS = ("read", "say", "call", "try")


def letters(count):
    return [chr(ord("a") + number) for number in range(count)]


def empty_procedures(count):
    return [(name, []) for name in letters(count)]


class MakingTest(unittest.TestCase):
    def test_lists_and_tuples(self):
        as_tuples = tuple((name, tuple(body)) for name, body in PROCEDURES)
        mixed = [(name, tuple(body)) for name, body in PROCEDURES]
        for procedures in (PROCEDURES, as_tuples, mixed, tuple(PROCEDURES)):
            program = Program(procedures)
            self.assertEqual(program.names, ("p", "a", "w", "z"))
            self.assertEqual(program.places, ("b", "d", "w"))
            self.assertEqual([(name, program[name]) for name in program.names],
                             [(name, tuple(body)) for name, body in PROCEDURES])

    def test_by_name(self):
        self.assertEqual(Program(procedures=[("p", [])]).names, ("p",))

    def test_kinds_of_the_values(self):
        program = Program(PROCEDURES)
        for value in (program.names, program.places, program["p"], program["a"], program["p"][0]):
            self.assertIsInstance(value, tuple)

    def test_places_only_from_read_steps(self):
        program = Program([("p", [("say", "x"), ("call", "q"), ("try", "r")]), ("q", []), ("r", [])])
        self.assertEqual(program.places, ())

    def test_places_ascend_as_strings_each_once(self):
        places = ["c", "ab", "b", "aa", "a", "c", "zz", "b"]
        program = Program([("q", [("read", place) for place in places]), ("p", [("read", "ab"), ("read", "ba")])])
        self.assertEqual(program.places, ("a", "aa", "ab", "b", "ba", "c", "zz"))

    def test_names_stay_in_program_order(self):
        for names in itertools.permutations(("b", "aa", "a")):
            self.assertEqual(Program([(name, ()) for name in names]).names, names)

    def test_steps_stay_in_order_with_duplicates(self):
        for body in itertools.permutations([("read", "d"), ("say", "d"), ("call", "p"), ("read", "d")]):
            self.assertEqual(Program([("p", list(body))])["p"], body)

    def test_empty_body(self):
        for body in ([], ()):
            self.assertEqual(Program([("p", body)])["p"], ())

    def test_procedures_may_call_themselves_and_later_ones(self):
        for kind in ("call", "try"):
            program = Program([("p", [(kind, "p"), (kind, "q")]), ("q", [(kind, "p")])])
            self.assertEqual(program["p"], ((kind, "p"), (kind, "q")))

    def test_each_sort_of_name_for_itself(self):
        program = Program([("p", [("read", "p"), ("say", "p"), ("read", "q"), ("say", "q")])])
        self.assertEqual((program.names, program.places), (("p",), ("p", "q")))

    def test_programs_are_separate(self):
        first, second = Program([("p", [("read", "d")])]), Program([("q", [])])
        self.assertEqual((first.names, first.places, second.names, second.places), (("p",), ("d",), ("q",), ()))


class CopyTest(unittest.TestCase):
    def test_what_was_passed_stays(self):
        procedures = copy.deepcopy(PROCEDURES)
        program = Program(procedures)
        text = program.text()
        self.assertEqual(program, Program(PROCEDURES))
        self.assertEqual(text, program.text())
        self.assertEqual(procedures, PROCEDURES)

    def test_what_was_passed_to_a_refused_program_stays(self):
        procedures = copy.deepcopy(PROCEDURES) + [("p", [("call", "none")])]
        before = copy.deepcopy(procedures)
        with self.assertRaises(InvalidProgram):
            Program(procedures)
        self.assertEqual(procedures, before)

    def test_later_changes_have_no_effect(self):
        procedures = copy.deepcopy(PROCEDURES)
        program = Program(procedures)
        procedures[0][1].append(("read", "later"))
        procedures[0][1][0] = ("say", "later")
        procedures[1][1].append(("say", "x"))
        procedures[2] = ("v", [])
        procedures.append(("y", []))
        self.assertEqual(program, Program(PROCEDURES))
        self.assertEqual(program.text(), Program(PROCEDURES).text())
        self.assertEqual(program.names, ("p", "a", "w", "z"))
        self.assertEqual(program.places, ("b", "d", "w"))
        self.assertEqual(program["p"], tuple(PROCEDURES[0][1]))
        self.assertEqual(program["a"], ())


class AskingTest(unittest.TestCase):
    def test_unknown_procedure_again_and_again(self):
        program = Program(PROCEDURES)
        for _ in range(3):
            for name in ("q", "", "P", "pp", "d", "x", "b", "ninechars", "p ", "p\n", "0", "names"):
                with self.assertRaises(UnknownProcedure) as context:
                    program[name]
                self.assertEqual(context.exception.name, name)
                self.assertIs(name in program, False)
        self.assertEqual(program, Program(PROCEDURES))
        self.assertEqual((program.names, len(program)), (("p", "a", "w", "z"), 4))

    def test_in(self):
        program = Program(PROCEDURES)
        for name in ("p", "a", "w", "z"):
            self.assertIs(name in program, True)
            self.assertIs(name not in program, False)
        for name in ("d", "b", "x", "", "pa", "P", "aw"):
            self.assertIs(name in program, False)
            self.assertIs(name not in program, True)

    def test_no_iteration(self):
        with self.assertRaises(TypeError):
            list(Program(PROCEDURES))

    def test_len(self):
        for count in range(1, 17):
            self.assertEqual(len(Program(empty_procedures(count))), count)
        self.assertEqual(len(Program(PROCEDURES)), 4)


class EqualityTest(unittest.TestCase):
    def assert_different(self, changed):
        program, other = Program(PROCEDURES), Program(changed)
        self.assertIs(program == other, False)
        self.assertIs(other == program, False)
        self.assertIs(program != other, True)
        self.assertIs(other != program, True)

    def test_equal_programs(self):
        program, other = Program(PROCEDURES), Program(tuple((name, tuple(body)) for name, body in PROCEDURES))
        self.assertIs(program == other, True)
        self.assertIs(program != other, False)

    def test_one_step_less_or_more(self):
        for row, (name, body) in enumerate(PROCEDURES):
            for at in range(len(body) + 1):
                more = copy.deepcopy(PROCEDURES)
                more[row][1].insert(at, ("say", "new"))
                self.assert_different(more)
            for at in range(len(body)):
                less = copy.deepcopy(PROCEDURES)
                del less[row][1][at]
                self.assert_different(less)

    def test_one_step_replaced(self):
        for row, (name, body) in enumerate(PROCEDURES):
            for at, (kind, word) in enumerate(body):
                for step in [("say", "new")] + [(other, word) for other in ("read", "say") if other != kind]:
                    changed = copy.deepcopy(PROCEDURES)
                    changed[row][1][at] = step
                    self.assert_different(changed)

    def test_call_is_not_try(self):
        self.assertNotEqual(Program([("p", [("call", "p")])]), Program([("p", [("try", "p")])]))

    def test_two_steps_exchanged(self):
        body = [("read", "d"), ("say", "d"), ("read", "c"), ("call", "p")]
        for order in itertools.permutations(body):
            self.assertIs(Program([("p", order)]) == Program([("p", body)]), list(order) == body)

    def test_a_step_moved_to_another_procedure(self):
        changed = copy.deepcopy(PROCEDURES)
        changed[1][1].append(changed[0][1].pop())
        self.assert_different(changed)

    def test_bodies_exchanged(self):
        one = Program([("p", [("say", "x")]), ("q", [])])
        self.assertNotEqual(one, Program([("p", []), ("q", [("say", "x")])]))

    def test_procedures_in_another_order(self):
        for order in itertools.permutations(PROCEDURES):
            self.assertIs(Program(order) == Program(PROCEDURES), list(order) == PROCEDURES)

    def test_procedures_more_less_or_renamed(self):
        self.assert_different(PROCEDURES + [("y", [])])
        renamed = copy.deepcopy(PROCEDURES)
        renamed[1] = ("b", [])
        self.assert_different(renamed)
        self.assertNotEqual(Program([("p", []), ("q", [])]), Program([("p", [])]))

    def test_values_of_other_kinds(self):
        program = Program(PROCEDURES)
        for other in (PROCEDURES, tuple(PROCEDURES), program.text(), program.names, NameSet(program.names),
                      dict(PROCEDURES), None, 4, True):
            self.assertIs(program == other, False)
            self.assertIs(other == program, False)
            self.assertIs(program != other, True)
            self.assertIs(other != program, True)


class InvalidTest(unittest.TestCase):
    def assert_invalid(self, procedures, line):
        for kind in (list, tuple):
            with self.assertRaises(InvalidProgram) as context:
                Program(kind(procedures))
            self.assertEqual(context.exception.line, line, procedures)

    def assert_invalid_at_each_line(self, procedure):
        """Whatever is wrong behind it, the first wrong procedure counts."""
        for before in (0, 1, 2, 15):
            good = empty_procedures(before)
            self.assert_invalid(good + [procedure], before + 1)
            self.assert_invalid(good + [procedure, ("a", [("no", "")]), ("", [])], before + 1)

    def test_names_of_procedures(self):
        for name in NAMES:
            self.assertEqual(Program([(name, [])]).names, (name,))
        for name in NOT_NAMES:
            self.assert_invalid_at_each_line((name, []))

    def test_names_in_steps(self):
        for name, kind in itertools.product(NAMES, KINDS):
            procedures = [("p", [(kind, name)])] + [(name, [])]
            self.assertEqual(Program(procedures)["p"], ((kind, name),))
        for name, kind in itertools.product(NOT_NAMES, KINDS):
            self.assert_invalid_at_each_line(("v", [(kind, name)]))
            self.assert_invalid_at_each_line(("v", [("say", "x")] * 11 + [(kind, name)]))

    def test_kinds(self):
        for kind in NOT_KINDS:
            self.assert_invalid_at_each_line(("v", [(kind, "v")]))
            self.assert_invalid_at_each_line(("v", [("say", "x"), (kind, "v"), ("say", "x")]))

    def test_steps_that_are_no_pairs(self):
        for step in [(), ("say",), ("say", "x", "y"), ["say", "x"], "say x", "sx", "", None, 1, {"say": "x"}]:
            self.assert_invalid_at_each_line(("v", [step]))
            self.assert_invalid_at_each_line(("v", [("say", "x"), step]))

    def test_number_of_steps(self):
        for step in [("read", "d"), ("say", "x"), ("call", "v"), ("try", "v")]:
            for count in (0, 1, 11, 12):
                self.assertEqual(Program([("v", [step] * count)])["v"], (step,) * count)
            for count in (13, 14, 100):
                self.assert_invalid_at_each_line(("v", [step] * count))
                self.assert_invalid_at_each_line(("v", (step,) * count))

    def test_a_name_twice(self):
        for first, second in itertools.combinations(range(16), 2):
            procedures = empty_procedures(16)
            procedures[second] = (procedures[first][0], [("say", "x")])
            self.assert_invalid(procedures, second + 1)

    def test_number_of_procedures(self):
        self.assertEqual(len(Program(empty_procedures(16))), 16)
        for count in (17, 18, 26):
            self.assert_invalid(empty_procedures(count), 17)
        self.assert_invalid(empty_procedures(16) + [("", [])], 17)
        self.assert_invalid(empty_procedures(16) + [("a", [("no", "no")])] * 9, 17)

    def test_no_procedure(self):
        self.assert_invalid([], 1)

    def test_calls_of_no_procedure(self):
        for kind, before, name in itertools.product(("call", "try"), (0, 1, 15), ("none", "x", "zz")):
            body = [("read", "x"), ("say", "zz"), (kind, name)]
            self.assert_invalid(empty_procedures(before) + [("v", body)], before + 1)
        for kind, other in itertools.product(("call", "try"), repeat=2):
            self.assert_invalid([("p", [(kind, "q")]), ("q", [(other, "r")]), ("u", [(kind, "s")])], 2)

    def test_calls_are_checked_after_everything_else(self):
        calling = ("p", [("call", "none")])
        for wrong in (("", []), ("q", [("no", "x")]), ("q", [("say", "")]), ("q", [("say", "x")] * 13), ("p", [])):
            self.assert_invalid([calling, wrong], 2)
            self.assert_invalid([calling, ("w", [("try", "none")]), wrong, ("", [])], 3)
        self.assert_invalid([("v", [("call", "none")])] + empty_procedures(16), 17)
        self.assert_invalid([("v", [("call", "none")])] + empty_procedures(15), 1)


class InterfaceTest(unittest.TestCase):
    def test_methods_stand_in_the_class(self):
        for method in ("__init__", "parse", "text", "__getitem__", "__contains__", "__len__", "__eq__"):
            self.assertIn(method, vars(Program))
        self.assertEqual(Program.__module__, "midfall.programs")
        self.assertIsInstance(vars(Program)["parse"], classmethod)


if __name__ == "__main__":
    unittest.main()
