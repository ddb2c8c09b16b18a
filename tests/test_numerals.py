"""Promise 2, and promise 1 where it speaks of numerals."""

import itertools
import string
import unittest

from listmarks.errors import BadManner, BadNumber, BadText
from listmarks.numerals import number_of, numeral
from tests.helpers import SAID, Hostile, LikeAll, told_class, wrong_kinds

KINDS = ("figures", "letters", "roman")
LETTER_STEPS = {
    1: "a", 2: "b", 25: "y", 26: "z", 27: "aa", 28: "ab", 52: "az", 53: "ba", 78: "bz", 79: "ca",
    701: "zy", 702: "zz", 703: "aaa", 704: "aab", 728: "aaz", 729: "aba", 1378: "azz", 1379: "baa",
    3000: "dkj", 3098: "dod", 3099: "doe",
}
ROMAN_BOUNDS = {
    1: "i", 2: "ii", 3: "iii", 4: "iv", 5: "v", 6: "vi", 8: "viii", 9: "ix", 10: "x", 11: "xi", 14: "xiv",
    39: "xxxix", 40: "xl", 41: "xli", 49: "xlix", 50: "l", 89: "lxxxix", 90: "xc", 99: "xcix", 100: "c",
    101: "ci", 399: "cccxcix", 400: "cd", 444: "cdxliv", 499: "cdxcix", 500: "d", 899: "dcccxcix", 900: "cm",
    999: "cmxcix", 1000: "m", 1001: "mi", 1999: "mcmxcix", 2888: "mmdccclxxxviii", 3000: "mmm", 3099: "mmmxcix",
}
WRONG_KINDS_OF_NUMERAL = [
    "", "figure", "Figures", "FIGURES", "figures ", " figures", "figures\n", "letter", "Letters", "Roman", "romans",
    "a", "1", "lettersroman", "f",
]


class Written(unittest.TestCase):
    def test_every_number_is_written_and_read_back(self):
        for kind in KINDS:
            for number in range(1, 3100):
                text = numeral(number, kind)
                self.assertEqual(text, SAID[kind](number))
                self.assertIs(type(text), str)
                back = number_of(text, kind)
                self.assertEqual(back, number)
                self.assertIs(type(back), int)

    def test_letters_go_in_order_from_one_to_two_to_three(self):
        rows = itertools.chain(*[itertools.product(string.ascii_lowercase, repeat=many) for many in (1, 2, 3)])
        wanted = ["".join(row) for row in itertools.islice(rows, 3099)]
        self.assertEqual([numeral(number, "letters") for number in range(1, 3100)], wanted)

    def test_steps_of_letters(self):
        for number, text in LETTER_STEPS.items():
            self.assertEqual(numeral(number, "letters"), text)
            self.assertEqual(number_of(text, "letters"), number)

    def test_bounds_of_roman_figures(self):
        for number, text in ROMAN_BOUNDS.items():
            self.assertEqual(numeral(number, "roman"), text)
            self.assertEqual(number_of(text, "roman"), number)

    def test_figures(self):
        for number, text in {1: "1", 9: "9", 10: "10", 99: "99", 100: "100", 1000: "1000", 3099: "3099"}.items():
            self.assertEqual(numeral(number, "figures"), text)
            self.assertEqual(number_of(text, "figures"), number)


class NotWritten(unittest.TestCase):
    def none_of(self, kind, texts):
        for text in texts:
            with self.subTest(kind=kind, text=text[:20]):
                self.assertIsNone(number_of(text, kind))

    def test_in_no_kind(self):
        texts = ["", " ", ".", "-", "?", "\n", "\t", "~", "0", "00", "i.i", "a.a", "1.1", "1a", "a1", "ia ", "-i", "+1"]
        for kind in KINDS:
            self.none_of(kind, texts)

    def test_in_figures(self):
        self.none_of("figures", [
            "01", "001", "0001", "00003099", "3100", "3101", "4000", "9999", "10000", "30990", "-1", "+1", " 1", "1 ",
            "1\n", "\n1", "\t1", "1_0", "1,000", "1.0", "0x1", "1e1", "a", "i", "one", "/", ":", "1/", "1:", "2:",
            "12-", "-12", "9" * 14, "9" * 15, "1" * 5000,
        ])

    def test_in_letters(self):
        self.none_of("letters", [
            "A", "Z", "aA", "Aa", "AA", "a ", " a", "a\n", "a-", "-a", "a b", "dof", "dog", "dpa", "eaa", "zzz", "aaaa",
            "`", "{", "a`", "a{", "a`a", "b`", "z" * 14, "z" * 15, "a" * 5000, "1", "a0", "a.",
        ])

    def test_in_roman_figures(self):
        self.none_of("roman", [
            "iiii", "vv", "viiii", "xxxx", "lxxxx", "ll", "cccc", "dd", "dcccc", "mmmm", "mmmc", "mmmcx", "mmmcd", "iix",
            "iiv", "vx", "ic", "il", "im", "id", "xm", "xd", "vl", "vc", "lc", "ld", "lm", "dm", "ivi", "ixi", "ixv",
            "ixx", "ivx", "xlx", "xcx", "xcl", "cdc", "cmc", "cmd", "cmm", "ivv", "xll", "xcc", "cmcm", "xcxc", "ixix",
            "iviv", "cdcd", "xlxl", "I", "IV", "Iv", "iV", "X", "MMM", "i ", " i", "i\n", "\ni", "x i", "x-i", "-i", "+i",
            "a", "1", "xa", "ax", "xivi", "vi i", "mmdccclxxxviiii", "m" * 14, "m" * 15, "i" * 5000, "mmmc" * 3,
        ])

    def test_only_what_is_written_is_read(self):
        for kind, signs, longest in (("figures", "0123x-", 5), ("letters", "adeo{A", 4), ("roman", "mdclxvi", 5)):
            written = {numeral(number, kind): number for number in range(1, 3100)}
            for many in range(longest + 1):
                for row in itertools.product(signs, repeat=many):
                    text = "".join(row)
                    self.assertEqual(number_of(text, kind), written.get(text))


class Refused(unittest.TestCase):
    def test_no_number(self):
        for number in wrong_kinds(int):
            for kind in (*KINDS, "no kind", None):
                self.assertIs(told_class(numeral, number, kind), BadNumber)

    def test_numbers_out_of_bounds(self):
        for number in (0, -1, -3099, 3100, 3101, 10 ** 9, 10 ** 5000, -(10 ** 5000), True, False):
            for kind in KINDS:
                self.assertIs(told_class(numeral, number, kind), BadNumber)

    def test_numbers_just_within_the_bounds(self):
        for kind in KINDS:
            self.assertIsNone(told_class(numeral, 1, kind))
            self.assertIsNone(told_class(numeral, 3099, kind))

    def test_no_text(self):
        for text in wrong_kinds(str):
            for kind in (*KINDS, "no kind", None):
                self.assertIs(told_class(number_of, text, kind), BadText)

    def test_no_kind(self):
        for kind in wrong_kinds(str) + WRONG_KINDS_OF_NUMERAL:
            self.assertIs(told_class(numeral, 1, kind), BadManner)
            self.assertIs(told_class(numeral, 3099, kind), BadManner)
            for text in ("", "1", "a", "i", "no number", "x" * 5000):
                self.assertIs(told_class(number_of, text, kind), BadManner)

    def test_of_two_faults_the_first(self):
        for kind in (None, "", "no kind", [], Hostile(), LikeAll()):
            for number in (0, 3100, True, None, "1"):
                self.assertIs(told_class(numeral, number, kind), BadNumber)
            for text in (None, 1, True, b"i", ["i"]):
                self.assertIs(told_class(number_of, text, kind), BadText)


if __name__ == "__main__":
    unittest.main()
