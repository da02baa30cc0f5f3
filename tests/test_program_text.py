"""The text of a program: text() and Program.parse, point 4."""

import itertools
import re
import unittest

from midfall.errors import InvalidProgram, UnknownProcedure
from midfall.programs import Program
from tests.texts import changed_texts

TEXTS = {
    "p: call w, read d": None,
    "p:": [("p", [])],
    "p: call p": [("p", [("call", "p")])],
    "abcdefgh: say zzzzzzzz, read abcdefgh, try abcdefgh": [
        ("abcdefgh", [("say", "zzzzzzzz"), ("read", "abcdefgh"), ("try", "abcdefgh")]),
    ],
    "p: call w, read d\nw: call p": [("p", [("call", "w"), ("read", "d")]), ("w", [("call", "p")])],
    "b:\na: try b, say x, say x\nread: call read, read read, say read, try read\nc:": [
        ("b", []),
        ("a", [("try", "b"), ("say", "x"), ("say", "x")]),
        ("read", [("call", "read"), ("read", "read"), ("say", "read"), ("try", "read")]),
        ("c", []),
    ],
}
WELL_FORMED = {text: procedures for text, procedures in TEXTS.items() if procedures is not None}
CHARACTERS = " ,:;\nadprw{`AZ09_-.\t\r@\x0b\x85\u2028\u00e9"
STEP = r" (read|say|call|try) ([a-z]{1,8})"
LINE = re.compile(rf"([a-z]{{1,8}}):({STEP}(,{STEP})*)?")


def first_wrong_line(text):
    """Return the number of the first wrong line, or None; written apart from the package."""
    lines = text.split("\n")
    found = [LINE.fullmatch(line) for line in lines]
    heads = [line.partition(":")[0] for line in lines]
    for at, match in enumerate(found):
        if match is None or lines[at].count(",") > 11 or heads[at] in heads[:at] or at == 16:
            return at + 1
    for at, line in enumerate(lines):
        callees = [name for kind, name in re.findall(STEP, line) if kind in ("call", "try")]
        if not set(callees) <= set(heads):
            return at + 1
    return None


class TextTest(unittest.TestCase):
    def test_text_of_procedures(self):
        for text, procedures in WELL_FORMED.items():
            self.assertEqual(Program(procedures).text(), text)

    def test_example_of_the_point(self):
        program = Program([("p", [("call", "w"), ("read", "d")]), ("w", ())])
        self.assertEqual(program.text(), "p: call w, read d\nw:")

    def test_parse_gives_the_program(self):
        for text, procedures in WELL_FORMED.items():
            program = Program.parse(text)
            self.assertIsInstance(program, Program)
            self.assertEqual(program, Program(procedures))
            self.assertEqual(program.names, tuple(name for name, body in procedures))
            self.assertEqual([program[name] for name in program.names], [tuple(body) for name, body in procedures])
            self.assertEqual(program.text(), text)

    def test_parsed_programs_know_their_places(self):
        program = Program.parse("p: read d, read b, say c\nw: read a, read d, call p")
        self.assertEqual(program.places, ("a", "b", "d"))
        with self.assertRaises(UnknownProcedure):
            program["d"]

    def test_text_and_back(self):
        steps = [("read", "p"), ("say", "q"), ("call", "p"), ("try", "q")]
        for count in range(4):
            for body in itertools.product(steps, repeat=count):
                program = Program([("q", body), ("p", body[:1])])
                self.assertEqual(Program.parse(program.text()), program)
                self.assertEqual(Program.parse(program.text()).text(), program.text())

    def test_parse_by_name(self):
        self.assertEqual(Program.parse(text="p:").names, ("p",))

    def test_largest_program(self):
        names = ["abcdefg" + chr(ord("a") + number) for number in range(16)]
        program = Program([(name, [("try", names[-1])] * 12) for name in names])
        self.assertEqual(Program.parse(program.text()), program)
        self.assertEqual(program.text().count("\n"), 15)


class WrongTextTest(unittest.TestCase):
    def assert_line(self, text, line):
        with self.assertRaises(InvalidProgram) as context:
            Program.parse(text)
        self.assertEqual(context.exception.line, line, repr(text))

    def assert_as_expected(self, text):
        line = first_wrong_line(text)
        if line is None:
            self.assertEqual(Program.parse(text).text(), text)
        else:
            self.assert_line(text, line)
        return line

    def test_empty_texts(self):
        self.assert_line("", 1)
        self.assert_line("\n", 1)
        self.assert_line("\np:", 1)

    def test_line_feed_at_the_end(self):
        self.assert_line("p:\n", 2)
        self.assert_line("p: call w, read d\nw: call p\n", 3)
        self.assert_line("p: call none\n", 2)

    def test_wrong_lines(self):
        for line in (
            "p", "p ", "p :", " p:", "p: ", "p:,", "p::", ":", ": read d", "p:read d", "p:  read d", "p: read  d",
            "p: read d ", "p: read d,", "p: read d, ", "p: read d,say x", "p: read d , say x", "p: read d,  say x",
            "p: read d; say x", "p: read d say x", "p: read d,, say x", "p: , read d", "p: read", "p: read ", "p:  d",
            "p: d", "p: Read d", "p: reads d", "p: read D", "p: read d1", "p: read ninechars", "ninechars:", "P:",
            "p1:", "p q:", "p: read d: say x", "p: read:d", "p:\tread d", "p: read\td", "p: read d\r", "p:\r",
            "p:p: read d", "p: read d e", "p: say x, read d e", "p: run d", "x p: read d", "p:x read d", "p:x", "1",
            "p: ('read', 'd')", "p: read -", "p: read \u00e9", "\u00e9:", "p: read d\u2028", "p:\x85",
            "p: " + ", ".join(["say x"] * 13),
        ):
            self.assert_line(line, 1)
            self.assert_line("a:\nb: read d\n" + line, 3)
            self.assert_line("a:\n" + line + "\na:\n:", 2)
            self.assert_line("a: call none\n" + line, 2)

    def test_wrong_lines_beside_other_faults(self):
        self.assert_line("p: call none\nw: try none", 1)
        self.assert_line("p:\nw: try none\nu: call none", 2)
        self.assert_line("p: try w\nw: call p\nw:", 3)
        self.assert_line("p:\nq:\np:\n\n", 3)

    def test_lines_twice_and_exchanged(self):
        for text in WELL_FORMED:
            lines = text.split("\n")
            for at in range(len(lines)):
                for place in range(len(lines) + 1):
                    self.assert_as_expected("\n".join(lines[:place] + [lines[at]] + lines[place:]))
            for order in itertools.permutations(lines):
                program = Program.parse("\n".join(order))
                self.assertIs(program == Program.parse(text), list(order) == lines)
                self.assertEqual(program.text(), "\n".join(order))

    def test_number_of_lines(self):
        lines = [chr(ord("a") + number) + ":" for number in range(20)]
        self.assertEqual(len(Program.parse("\n".join(lines[:16]))), 16)
        for text in ("\n".join(lines[:17]), "\n".join(lines), "\n".join(lines[:16] + ["a:"]),
                     "\n".join(lines[:16] + [""]), "\n".join(lines[:17] + ["Q"])):
            self.assert_line(text, 17)
        self.assert_line("\n".join(["u: call none"] + lines[:16]), 17)
        self.assert_line("\n".join(lines[:15] + ["q"] + lines), 16)

    def test_number_of_steps(self):
        twelve = "p: " + ", ".join(["read d"] * 12)
        self.assertEqual(Program.parse(twelve).text(), twelve)
        self.assert_line(twelve + ", read d", 1)
        self.assert_line("a:\n" + twelve + ", read d\nb:", 2)

    def test_every_small_change(self):
        accepted = 0
        for text in TEXTS:
            for changed in changed_texts(text, CHARACTERS):
                accepted += self.assert_as_expected(changed) is None
        self.assertGreater(accepted, 100)

    def test_every_short_text(self):
        for length in range(5):
            for characters in itertools.product("ab:, \n", repeat=length):
                self.assert_as_expected("".join(characters))


if __name__ == "__main__":
    unittest.main()
