"""Alike procedures: midfall/alike.py, point 27."""

import itertools
import unittest

from midfall.alike import alike, parting
from midfall.errors import CallFailed, UnknownProcedure
from midfall.plain import plain_result
from midfall.programs import Program
from tests.reference import full_program, random_program, subsets

NAMES = [chr(ord("a") + number) for number in range(16)]
PROGRAM = Program.parse("x: call r\ny: try r\nz: call r, say end\nr: read d\nu: call y\nv: call u\ns: call t\nt: try s")


def returned(program, name, numbers, broken):
    """Return the plain result in a world for more places than those of the program, or None if the run fails."""
    try:
        return plain_result(program, name, numbers={place: numbers[place] for place in program.places},
                            broken=[place for place in broken if place in program.places])
    except CallFailed:
        return None


def all_places(program, other):
    return sorted(set(program.places) | set(other.places))


def are_alike_everywhere(program, name, other, other_name):
    """Tell whether the plain runs do the same in all worlds with small numbers."""
    places = all_places(program, other)
    for chosen in itertools.product(range(2), repeat=len(places)):
        numbers = dict(zip(places, chosen))
        for broken in subsets(places):
            if returned(program, name, numbers, broken) != returned(other, other_name, numbers, broken):
                return False
    return True


def expected_parting(program, name, other, other_name):
    """Return the parting, read from the plain results in the worlds that point 27 lists."""
    places = all_places(program, other)
    numbers = {place: 100 - at for at, place in enumerate(places)}
    for broken in [()] + [(place,) for place in places]:
        one, two = returned(program, name, numbers, broken), returned(other, other_name, numbers, broken)
        if one != two:
            return broken, () if one is None or two is None else one.first_difference(two)
    return None


class AlikeCase(unittest.TestCase):
    def assert_parting(self, expected, program, name, other, other_name):
        """The procedures have this parting, in both orders."""
        for arguments in ((program, name, other, other_name), (other, other_name, program, name)):
            found = parting(*arguments)
            self.assertEqual(found, expected)
            self.assertIs(alike(*arguments), expected is None)
            if found is not None:
                self.assertEqual([type(part) for part in (found, *found)], [tuple] * 3)

    def assert_texts(self, expected, text, name, other_text, other_name):
        self.assert_parting(expected, Program.parse(text), name, Program.parse(other_text), other_name)


class PartingTest(AlikeCase):
    def test_procedures_of_one_program(self):
        self.assert_parting((("d",), ()), PROGRAM, "x", PROGRAM, "y")
        self.assert_parting(((), (1,)), PROGRAM, "x", PROGRAM, "z")
        self.assert_parting(((), (0, 0)), PROGRAM, "u", PROGRAM, "y")
        self.assert_parting(((), (0, 0, 0)), PROGRAM, "u", PROGRAM, "v")
        self.assert_parting(None, PROGRAM, "s", PROGRAM, "t")
        for name in PROGRAM.names:
            self.assert_parting(None, PROGRAM, name, PROGRAM, name)
        self.assertEqual((alike.__module__, parting.__module__), ("midfall.alike",) * 2)

    def test_names_have_no_meaning(self):
        self.assert_texts(None, "p: call q, read d\nq: call p, read d", "q", "r: call r, read d", "r")
        self.assert_texts(None, "p: try p, say x", "p", "a: try b, say x\nb: call c, say x\nc: try b, say x", "a")

    def test_words_and_numbers(self):
        self.assert_texts(((), (0,)), "p: say x", "p", "p: say y", "p")
        self.assert_texts(((), (0,)), "p: read x", "p", "p: say x", "p")
        self.assert_texts(((), (1,)), "p: say x, call p", "p", "p: say x, read x", "p")
        self.assert_texts(((), (0,)), "p:", "p", "p: say x", "p")
        self.assert_texts(None, "p:", "p", "q:\np: call q", "q")

    def test_places_are_told_apart(self):
        self.assert_texts(((), (0,)), "p: read d", "p", "p: read e", "p")
        self.assert_texts(((), (1,)), "p: read d, read e", "p", "p: read d, read d", "p")
        self.assert_texts(((), (0,)), "p: read d, read e", "p", "p: read e, read d", "p")

    def test_a_place_of_one_program_alone(self):
        self.assert_texts(((), (0, 1)), "p: try q, say x\nq: say y", "p", "p: try q, say x\nq: say y, read e", "p")

    def test_just_one_fails(self):
        self.assert_texts((("e",), ()), "p: read d, call q\nq: read e", "p", "p: read d, try q\nq: read e", "p")
        self.assert_texts((("d",), ()), "p: try q, call r\nq: read d\nr: read e", "p",
                          "p: call q, call r\nq: read d\nr: read e", "p")

    def test_both_fail(self):
        self.assert_texts(None, "p: call q, call q\nq: read d", "p", "a: call b, call c\nb: read d\nc: read d", "a")

    def test_gaps_at_another_depth(self):
        one = "p: try q\nq: call r\nr: read d"
        other = "p: try q\nq: try r\nr: read d"
        self.assert_texts((("d",), (0,)), one, "p", other, "p")
        self.assert_texts((("d",), ()), one, "q", other, "q")

    def test_the_first_place_in_ascending_order(self):
        one = "p: try z, try a, try m\nz: call y\na: call b\nm: call l\ny: read e\nb: read c\nl: read d"
        for kinds, place, path in (("try call call", "e", (0,)), ("call try try", "c", (1,)), 
                                   ("call call try", "d", (2,)), ("try try call", "c", (1,)),
                                   ("try call try", "d", (2,))):
            z, a, m = kinds.split()
            other = f"p: try z, try a, try m\nz: {z} y\na: {a} b\nm: {m} l\ny: read e\nb: read c\nl: read d"
            self.assert_texts(((place,), path), one, "p", other, "p")

    def test_no_broken_place_comes_first(self):
        self.assert_texts(((), (1,)), "p: try q, say x\nq: read d", "p", "p: call q, say y\nq: read d", "p")

    def test_programs_without_places(self):
        self.assert_texts(None, "p: call p", "p", "p: try q\nq: call p", "q")
        self.assert_texts(((), (0, 1)), "p: call p", "p", "p: try q\nq: call p, say x", "p")
        self.assert_texts(((), (0,)), "p:", "p", "p: read d", "p")

    def test_places_that_are_not_reached(self):
        self.assert_texts(None, "p: say x\nq: read d", "p", "p: say x\nr: read e, call r", "p")

    def test_rings_of_sixteen(self):
        ring = [(name, [("call", after), ("read", "d")]) for name, after in zip(NAMES, NAMES[1:] + ["a"])]
        self.assert_parting(None, Program(ring), "c", Program.parse("p: call p, read d"), "p")
        broken_ring = Program(ring[:15] + [("p", [("call", "a"), ("read", "e")])])
        self.assert_parting(((), (0,) * 15 + (1,)), Program(ring), "a", broken_ring, "a")
        trying_ring = Program(ring[:15] + [("p", [("try", "a"), ("read", "d")])])
        self.assert_parting(None, Program(ring), "a", trying_ring, "a")


class UnknownTest(AlikeCase):
    def test_unknown_procedures(self):
        other = Program.parse("p: read c")
        for function in (alike, parting):
            for name, other_name, expected in (("p", "p", "p"), ("zz", "aa", "zz"), ("x", "x", "x"), ("", "p", ""),
                                               ("d", "p", "d"), ("x", "zz", "zz"), ("x", "c", "c"), ("x", "", "")):
                with self.assertRaises(UnknownProcedure) as context:
                    function(PROGRAM, name, other, other_name)
                self.assertEqual(vars(context.exception), {"name": expected})

    def test_arguments(self):
        self.assertIs(alike(program=PROGRAM, name="s", other=PROGRAM, other_name="t"), True)
        self.assertEqual(parting(program=PROGRAM, name="x", other=PROGRAM, other_name="z"), ((), (1,)))
        before = PROGRAM.text()
        parting(PROGRAM, "x", PROGRAM, "y")
        self.assertEqual(PROGRAM.text(), before)


class WorldsTest(AlikeCase):
    def test_two_programs(self):
        found = {True: 0, False: 0}
        for seed in range(250):
            program = random_program(seed, procedures=3, steps=2)
            other = random_program(seed + 1000, procedures=3, steps=2)
            for name in program.names:
                for other_name in other.names:
                    self.compare(program, name, other, other_name, found)
        self.assertGreater(min(found.values()), 90)

    def test_one_program(self):
        found = {True: 0, False: 0}
        for seed in range(200):
            program = random_program(seed, procedures=4, steps=3)
            for name in program.names:
                for other_name in program.names:
                    self.compare(program, name, program, other_name, found)
        self.assertGreater(min(found.values()), 90)

    def test_programs_that_differ_in_one_step(self):
        found = {True: 0, False: 0}
        for seed in range(120):
            program = random_program(seed, procedures=4, steps=4)
            text = program.text()
            for old, new in (("call", "try"), ("try", "call"), ("read d", "read e")):
                other = Program.parse(text.replace(old, new, 1))
                for name in program.names:
                    self.compare(program, name, other, name, found)
        self.assertGreater(min(found.values()), 90)

    def compare(self, program, name, other, other_name, found):
        expected = expected_parting(program, name, other, other_name)
        with self.subTest(program=program.text(), name=name, other=other.text(), other_name=other_name):
            self.assertEqual(parting(program, name, other, other_name), expected)
            everywhere = are_alike_everywhere(program, name, other, other_name)
            self.assertIs(alike(program, name, other, other_name), everywhere)
            found[everywhere] += 1

    def test_largest_programs(self):
        for seed in range(3):
            program, other = full_program(seed), full_program(seed + 10)
            self.assertEqual(parting(program, "a", other, "b"), expected_parting(program, "a", other, "b"))


if __name__ == "__main__":
    unittest.main()
