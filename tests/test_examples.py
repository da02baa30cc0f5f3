"""The examples of the document, as examples.txt holds them word for word.

Examples are separated by empty lines. The last row of an example is what its
last expression gives: a value, or `raises` and an error.
"""

import unittest
from pathlib import Path

from midfall import errors

TEXT = (Path(__file__).parent / "examples.txt").read_text(encoding="utf-8")
EXAMPLES = TEXT.rstrip("\n").split("\n\n")
PROMPT = ">>> "


class ExamplesTest(unittest.TestCase):
    def test_every_example(self):
        self.assertGreater(len(EXAMPLES), 0)
        for example in EXAMPLES:
            with self.subTest(example=example):
                self.check(example)

    def check(self, example):
        *rows, expected = example.split("\n")
        self.assertTrue(all(row.startswith(PROMPT) for row in rows))
        *statements, expression = [row.removeprefix(PROMPT) for row in rows]
        scope = {}
        exec("\n".join(statements), scope)
        if expected.startswith("raises "):
            self.check_error(expression, scope, eval(expected.removeprefix("raises "), vars(errors).copy()))
        else:
            self.assertEqual(repr(eval(expression, scope)), expected)

    def check_error(self, expression, scope, expected):
        with self.assertRaises(errors.MidfallError) as context:
            eval(expression, scope)
        self.assertIs(type(context.exception), type(expected))
        self.assertEqual(vars(context.exception), vars(expected))


if __name__ == "__main__":
    unittest.main()
