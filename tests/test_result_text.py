"""The text of a result: text() and Result.parse, points 28 and 29."""

import itertools
import re
import unittest

from midfall.errors import InvalidResult
from midfall.results import Result
from tests.reference import expected_rows, random_rows
from tests.texts import changed_texts

LARGEST = "9" * 60
TEXTS = {
    "0:": [[]],
    "0: -": [[("gap",)]],
    "0: 0": [[("number", 0)]],
    "0: @0": [[("node", 0)]],
    "0: abcdefgh - -1 10 @0 z": [
        [("word", "abcdefgh"), ("gap",), ("number", -1), ("number", 10), ("node", 0), ("word", "z")],
    ],
    f"0: {LARGEST} -{LARGEST}": [[("number", 10 ** 60 - 1), ("number", 1 - 10 ** 60)]],
    "0: @1 -7 open -\n1:": [[("node", 1), ("number", -7), ("word", "open"), ("gap",)], []],
    "0: @1 @2\n1: @0 5 5\n2: @1 node": [
        [("node", 1), ("node", 2)], [("node", 0), ("number", 5), ("number", 5)], [("node", 1), ("word", "node")],
    ],
}
CHARACTERS = " :-@0129aznAZ`{\n\t\r,.+_/;\x0b\x85\u2028\u00e9\u0660\u00b2\uff11"
NATURAL = "(?:0|[1-9][0-9]*)"
ITEM = re.compile(f"-|@{NATURAL}|0|-?[1-9][0-9]{{0,59}}|[a-z]{{1,8}}")


def first_wrong_line(text):
    """Return the number of the first wrong line, or None; written apart from the package."""
    lines = text.split("\n")
    for at, line in enumerate(lines):
        head, *words = re.split(" ", line)
        if at == 40 or head != str(at) + ":" or len(words) > 12:
            return at + 1
        for word in words:
            if not ITEM.fullmatch(word) or word[0] == "@" and int(word[1:]) >= len(lines):
                return at + 1
    return None


def read_rows(text):
    """Return the rows of a text that has the form, as they are numbered in it."""
    rows = []
    for line in text.split("\n"):
        row = []
        for word in line.split(" ")[1:]:
            if word == "-":
                row.append(("gap",))
            elif word[0] == "@":
                row.append(("node", int(word[1:])))
            elif word[0] in "-0123456789":
                row.append(("number", int(word)))
            else:
                row.append(("word", word))
        rows.append(row)
    return rows


class TextTest(unittest.TestCase):
    def test_text_of_rows(self):
        for text, rows in TEXTS.items():
            self.assertEqual(Result(rows).text(), text)

    def test_example_of_the_point(self):
        result = Result([[("node", 1), ("number", -7), ("word", "open"), ("gap",)], []])
        self.assertEqual(result.text().split("\n")[0], "0: @1 -7 open -")

    def test_parse_gives_the_result(self):
        for text, rows in TEXTS.items():
            result = Result.parse(text)
            self.assertIsInstance(result, Result)
            self.assertEqual(result.rows(), rows)
            self.assertEqual(result, Result(rows))
            self.assertEqual(result.text(), text)

    def test_numbers(self):
        for number in [*range(-120, 121), 10 ** 59, -(10 ** 59), 10 ** 60 - 1, 1 - 10 ** 60]:
            text = Result([[("number", number)]]).text()
            self.assertEqual(text, f"0: {number:d}")
            self.assertEqual(Result.parse(text).rows(), [[("number", number)]])

    def test_text_and_back(self):
        for seed in range(500):
            result = Result(random_rows(seed, rows=14))
            self.assertEqual(Result.parse(result.text()), result)
            self.assertEqual(Result.parse(result.text()).text(), result.text())

    def test_text_of_rows_that_are_numbered_otherwise(self):
        for text, numbered in (
            ("0: @2\n1: @0 5\n2: @1", "0: @1\n1: @2\n2: @0 5"),
            ("0: @2 @1\n1: -\n2: -", "0: @1 @1\n1: -"),
            ("0: @1\n1: @2\n2: @1", "0: @0"),
            ("0: x\n1: y\n2: @7\n3: @0\n4:\n5:\n6:\n7:", "0: x"),
        ):
            self.assertEqual(Result.parse(text).text(), numbered)

    def test_texts_of_many_rows(self):
        for seed in range(300):
            rows = random_rows(seed, rows=6)
            lines = [" ".join([f"{at}:"] + [{"node": "@", "gap": "-"}.get(item[0], "") + str((*item, "")[1])
                                            for item in row]) for at, row in enumerate(rows)]
            self.assertEqual(read_rows("\n".join(lines)), rows)
            self.assertEqual(Result.parse("\n".join(lines)).rows(), expected_rows(rows))

    def test_parse_by_name(self):
        self.assertEqual(Result.parse(text="0:").rows(), [[]])

    def test_largest_text(self):
        rows = [[("node", (at * 7 + item) % 40) for item in range(11)] + [("number", at)] for at in range(40)]
        result = Result(rows)
        self.assertEqual(result.text().count("\n"), 39)
        self.assertEqual(Result.parse(result.text()), result)

    def test_later_changes_have_no_effect(self):
        result = Result.parse("0: @1\n1: x")
        result.rows()[1].clear()
        self.assertEqual(result.text(), "0: @1\n1: x")


class WrongTextTest(unittest.TestCase):
    def assert_line(self, text, line):
        with self.assertRaises(InvalidResult) as context:
            Result.parse(text)
        self.assertEqual(context.exception.line, line, repr(text))

    def assert_as_expected(self, text):
        line = first_wrong_line(text)
        if line is None:
            self.assertEqual(Result.parse(text), Result(read_rows(text)), repr(text))
        else:
            self.assert_line(text, line)
        return line

    def test_empty_texts_and_empty_lines(self):
        self.assert_line("", 1)
        self.assert_line("\n", 1)
        self.assert_line("\n0:", 1)
        self.assert_line("0:\n", 2)
        self.assert_line("0: @1\n1:\n", 3)
        self.assert_line("0:\n\n2:", 2)

    def test_wrong_items(self):
        for item in (
            "", "-0", "00", "01", "-01", "007", "--", "--1", "+1", "1-", "-a", "a-", "1a", "a1", "A", "aB", "ninechars",
            "@", "@-", "@-0", "@-1", "@00", "@01", "@+1", "@@0", "@a", "0@", "@0a", "@0,", "@3", "@4", "@" + "9" * 70,
            "1.0", "1_0", "1e5", "0x1", "_", ".", ",", "a,", ":", "0:", "a:b", "\t", "a\t", "\r", "\u00e9", "\u0660",
            "\u00b2", "\uff11", "@\u0660", "@\u00b2", "1\u0660", "-\u0661", "\u2212", "\u20131", "(gap)",
            "1" + LARGEST, "-1" + LARGEST, "1" + "0" * 60, "1" * 4300, "1" * 5000, "-" + "1" * 5000, "@" + "1" * 5000,
            "0" * 60, "0" * 61, "-" + "0" * 60, "@" + "0" * 5000, "a" * 9, "a" * 5000,
        ):
            self.assert_line(f"0: {item}", 1)
            self.assert_line(f"0: x {item} x\n1: {item}", 1)
            self.assert_line(f"0: @1\n1: x {item}\n", 2)
            self.assert_line(f"0:\n1: -\n2: {item} -", 3)

    def test_wrong_lines(self):
        for line in (
            "{}", "{} ", "{} :", "{}: ", " {}:", "{}:  ", "{}::", "{}:x", "{}:-", "{}:  x", "{}: x ", "{}: x  x",
            "{}:\tx", "{}: x\tx", "{}: x\r", "{}: x\x0b", "{}:\u00a0x", "{}: x\u2028", "0{}:", "+{}:", "-{}:", "{}0:",
            "{}.:", "{}: x, x", "@{}:", "({}):", "x", ":", "a:", "-:", ": x", " ", "\t",
        ):
            for at in range(4):
                before = "".join(f"{index}: x\n" for index in range(at))
                self.assert_line(before + line.format(at), at + 1)
                self.assert_line(before + line.format(at) + f"\n{at + 1}: @99", at + 1)

    def test_other_indexes(self):
        for wrong in ("1", "2", "-0", "00", "-1", "01", "10", "", "x", "\u0660"):
            self.assert_line(f"{wrong}:", 1)
        self.assert_line("0:\n0:", 2)
        self.assert_line("0:\n2:\n1:", 2)
        self.assert_line("0:\n1:\n3:", 3)
        self.assert_line("1:\n0:", 1)
        self.assert_line("\n".join(f"{index}:" for index in range(1, 10)), 1)

    def test_number_of_lines(self):
        lines = [f"{index}:" for index in range(100)]
        for count in (1, 39, 40):
            self.assertEqual(Result.parse("\n".join(lines[:count])).rows(), [[]])
        for text in ("\n".join(lines[:41]), "\n".join(lines), "\n".join(lines[:40]) + "\n",
                     "\n".join(lines[:40] + ["x"]), "\n".join(["0: @40"] + lines[1:41])):
            self.assert_line(text, 41)
        self.assert_line("\n".join(["0: @41"] + lines[1:41]), 1)
        self.assert_line("\n".join(lines[:39] + ["38:"] + lines[40:]), 40)

    def test_number_of_items(self):
        for item in ("-", "x", "-5", "@0"):
            self.assertEqual(len(Result.parse("0:" + f" {item}" * 12)), 12)
            for count in (13, 14, 100):
                self.assert_line("0:" + f" {item}" * count, 1)
                self.assert_line("0: @1\n1:" + f" {item}" * count + "\n", 2)

    def test_every_small_change(self):
        accepted = 0
        for text in TEXTS:
            for changed in changed_texts(text, CHARACTERS):
                accepted += self.assert_as_expected(changed) is None
        self.assertGreater(accepted, 1000)

    def test_every_short_text(self):
        for length in range(5):
            for characters in itertools.product("0:1 @-a\n", repeat=length):
                self.assert_as_expected("".join(characters))
                self.assert_as_expected("0:" + "".join(characters))
                self.assert_as_expected("0: @1\n1:" + "".join(characters))


if __name__ == "__main__":
    unittest.main()
