"""Numbers and how they are written: midfall/numerals.py, points 2 and 28."""

import itertools
import re
import unittest

from midfall.numerals import is_integer, is_number, is_numeral

FORM = re.compile("0|-?[1-9][0-9]{0,59}")


class NumbersTest(unittest.TestCase):
    def test_integers(self):
        for value in (0, 1, -1, 10 ** 59, 10 ** 60 - 1, 1 - 10 ** 60):
            self.assertIs(is_integer(value), True)
            self.assertIs(is_number(value), True)
        for value in (10 ** 60, -(10 ** 60), 10 ** 5000, -(10 ** 5000)):
            self.assertIs(is_integer(value), True)
            self.assertIs(is_number(value), False)

    def test_other_values(self):
        for value in (True, False, None, "", "1", b"1", 1.0, (1,), [1], {}, 1j):
            self.assertIs(is_integer(value), False)
            self.assertIs(is_number(value), False)


class NumeralsTest(unittest.TestCase):
    def test_every_short_text(self):
        for length in range(6):
            for characters in itertools.product("-+019 a", repeat=length):
                text = "".join(characters)
                self.assertIs(is_numeral(text), FORM.fullmatch(text) is not None, text)

    def test_texts_of_numbers(self):
        for number in [*range(-1000, 1000), 10 ** 59, -(10 ** 59), 10 ** 60 - 1, 1 - 10 ** 60]:
            self.assertIs(is_numeral(str(number)), True)
        for number in (10 ** 60, -(10 ** 60), 10 ** 4000):
            self.assertIs(is_numeral(str(number)), False)

    def test_digits_of_other_scripts(self):
        for text in ("\u0661", "\u00b2", "\uff11", "1\u0661", "-\uff11", "\u00bd", "1\n", "\n1", "1\u2028", "9" * 5000):
            self.assertIs(is_numeral(text), False)


if __name__ == "__main__":
    unittest.main()
