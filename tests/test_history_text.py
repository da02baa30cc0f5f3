"""The text of a history: text() and History.parse, point 28."""

import itertools
import re
import unittest

from midfall.errors import InvalidHistory
from midfall.histories import History
from tests.texts import changed_texts

LARGEST = "9" * 60
TEXTS = {
    "run p": (("run", "p", ()),),
    "run p broken d": (("run", "p", ("d",)),),
    "run p broken d e": (("run", "p", ("d", "e")),),
    "set d 0": (("set", "d", 0),),
    "set d -5": (("set", "d", -5),),
    f"set d {LARGEST}": (("set", "d", 10 ** 60 - 1),),
    f"set abcdefgh -{LARGEST}": (("set", "abcdefgh", 1 - 10 ** 60),),
    "run broken broken broken": (("run", "broken", ("broken",)),),
    "run run broken run set": (("run", "run", ("run", "set")),),
    "set set 10\nrun set\nset run -10\nrun abcdefgh broken a b c": (
        ("set", "set", 10), ("run", "set", ()), ("set", "run", -10), ("run", "abcdefgh", ("a", "b", "c")),
    ),
}
LINE = re.compile("run [a-z]{1,8}( broken( [a-z]{1,8})+)?|set [a-z]{1,8} (0|-?[1-9][0-9]{0,59})")
CHARACTERS = " -0159abnrstzA\n\t\r,.:+_\x0b\x85\u2028\u00e9\u0660\u00b2\uff11"


def first_wrong_line(text):
    """Return the number of the first wrong line, or None; written apart from the package."""
    if not text:
        return None
    for at, line in enumerate(text.split("\n")):
        if at == 200 or not LINE.fullmatch(line):
            return at + 1
    return None


def read_events(text):
    """Return the events of a text that has the form."""
    events = []
    for line in text.split("\n") if text else []:
        kind, name, *more = line.split(" ")
        events.append((kind, name, int(more[0]) if kind == "set" else tuple(sorted(set(more[1:])))))
    return tuple(events)


class TextTest(unittest.TestCase):
    def assert_as_expected(self, text):
        """Parse the text; return the number of the wrong line that it has by a regular expression."""
        line = first_wrong_line(text)
        if line is None:
            history = History.parse(text)
            self.assertEqual(history.events, read_events(text), repr(text))
            self.assertEqual(History.parse(history.text()), history)
            return None
        with self.assertRaises(InvalidHistory) as context:
            History.parse(text)
        self.assertEqual(vars(context.exception), {"line": line}, repr(text))
        return line

    def assert_line(self, text, line):
        self.assertEqual(self.assert_as_expected(text), line, repr(text))

    def test_text_and_parse(self):
        for text, events in TEXTS.items():
            self.assertEqual(History.parse(text).events, events)
            self.assertEqual(History(events).text(), text)
            self.assertEqual(History.parse(text), History(list(events)))
            self.assertIsInstance(History.parse(text), History)

    def test_the_empty_text(self):
        self.assertEqual(History.parse("").events, ())
        self.assertEqual(History().text(), "")

    def test_places_in_any_order_with_duplicates(self):
        for places in itertools.permutations(["d", "e", "c", "d"]):
            history = History.parse("run p broken " + " ".join(places))
            self.assertEqual(history.events, (("run", "p", ("c", "d", "e")),))
            self.assertEqual(history.text(), "run p broken c d e")

    def test_numbers(self):
        for number in range(-120, 120):
            self.assertEqual(History.parse(f"set d {number}").events, (("set", "d", number),))
            self.assertEqual(History([("set", "d", number)]).text(), f"set d {number}")

    def test_wrong_numbers(self):
        for number in ("", "-", "-0", "00", "01", "-01", "+1", "--1", "1-", "1.0", "1_0", "1e5", "0x1", "x", "@1",
                       "\u0660", "1\u0660", "\u00b2", "\u22121", "1" + LARGEST, "-1" + LARGEST, "1" + "0" * 60,
                       "0" * 60, "1" * 5000, "-" + "1" * 5000, "True", "None"):
            self.assert_line(f"set d {number}", 1)
            self.assert_line(f"run p\nset d {number}", 2)
            self.assert_line(f"set d {number}\nset", 1)

    def test_wrong_lines(self):
        for line in ("", " ", "run", "run ", "runp", "run  p", " run p", "run p ", "run\tp", "run p\t", "run p\r",
                     "Run p", "run P", "run p q", "run p broken", "run p broken ", "run p  broken d", "run p broken  d",
                     "run p broken d ", "run p broken d  e", "run p broken d,e", "run p broken d, e", "run p broke d",
                     "run p d", "run p broken d E", "run p broken ninechars", "run ninechars",
                     "run p broken 1", "set", "set d", "set d ", "set  d 1", "set d  1", " set d 1", "set d 1 ",
                     "set d 1 2", "set D 1", "set d=1", "set ninechars 1", "set 1 d", "set d\t1", "play p", "p", "d 1",
                     "run p;", "# run p", "run p\x0b", "run p\x85", "run p\u2028"):
            for before in ("", "run p\n", "set d -5\nrun broken\n"):
                self.assert_line(before + line + "\nrun", 1 + before.count("\n"))
                if before + line:
                    self.assert_line(before + line, 1 + before.count("\n"))

    def test_a_line_feed_at_the_end(self):
        self.assert_line("\n", 1)
        self.assert_line("run p\n", 2)
        self.assert_line("\nrun p", 1)
        self.assert_line("run p\n\nrun p", 2)
        self.assert_line("set d 1\nrun p broken d\n\n", 3)

    def test_the_number_of_lines(self):
        for count in (199, 200):
            self.assertEqual(len(History.parse("\n".join(["set d 1"] * count))), count)
        for text in ("\n".join(["run p"] * 201), "\n".join(["run p"] * 500), "run p\n" * 200):
            self.assert_line(text, 201)
        self.assert_line("\n".join(["run p"] * 199 + ["run"] + ["run p"] * 50), 200)

    def test_every_small_change(self):
        accepted = 0
        for text in TEXTS:
            for changed in changed_texts(text, CHARACTERS):
                accepted += self.assert_as_expected(changed) is None
        self.assertGreater(accepted, 1000)

    def test_every_order_of_words(self):
        words = ["run", "set", "broken", "d", "5", "-"]
        for length in range(6):
            for chosen in itertools.product(words, repeat=length):
                self.assert_as_expected(" ".join(chosen))


if __name__ == "__main__":
    unittest.main()
