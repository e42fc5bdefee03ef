"""[21] words, with the definitions of [2]."""

import unittest

from earlyorlate.words import contrary, is_integer, is_kind, is_number, turned_literal
from tests.helper import FAR, NO_INTEGERS, NO_KINDS, NO_NUMBERS


class WordsTest(unittest.TestCase):
    def test_integers(self):
        for thing in (0, 1, -1, 24, FAR, FAR + 1, -FAR - 1, 10 ** 60, -10 ** 3000):
            self.assertIs(is_integer(thing), True)
        for thing in NO_INTEGERS:
            self.assertIs(is_integer(thing), False, thing)

    def test_numbers(self):
        for thing in (0, 1, -1, FAR - 1, FAR, 1 - FAR, -FAR):
            self.assertIs(is_number(thing), True)
        for thing in (FAR + 1, -FAR - 1, FAR * 10, 10 ** 60, -10 ** 60, 10 ** 3000):
            self.assertIs(is_number(thing), False)
        for thing in NO_NUMBERS:
            self.assertIs(is_number(thing), False, thing)

    def test_truths_are_neither(self):
        for truth in (True, False):
            self.assertIs(is_integer(truth), False)
            self.assertIs(is_number(truth), False)

    def test_kinds(self):
        self.assertIs(is_kind("early"), True)
        self.assertIs(is_kind("late"), True)
        self.assertIs(is_kind("".join(["la", "te"])), True)
        for thing in NO_KINDS + ["early ", " early", "earl", "earlyy", "Late", "lat", "", "early, late", "arl"]:
            self.assertIs(is_kind(thing), False, thing)

    def test_contrary(self):
        self.assertEqual(contrary("early"), "late")
        self.assertEqual(contrary("late"), "early")

    def test_turned_literal(self):
        self.assertEqual(turned_literal((0, "early")), (0, "late"))
        self.assertEqual(turned_literal((7, "late")), (7, "early"))
        self.assertIsInstance(turned_literal((3, "late")), tuple)


if __name__ == "__main__":
    unittest.main()
