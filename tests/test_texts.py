"""Promises 9 and 10: texts written, read or broken, and their refusals."""

import unittest

from listmarks import answers
from listmarks.errors import BadManner, BadOutline, BadText
from listmarks.texts import read, written
from tests.helpers import (
    BAD_MANNERS, BAD_OUTLINES, FIGURES, MANNERS, NAMES, Hostile, LikeAll, mixed_outlines, outlines_of, said_read,
    said_text, shown, told_class, wrong_kinds,
)

FLR = ["figures", "letters", "roman", "figures"]
NESTED = [
    ("a", 0, 0, ["d"]), ("b", 1, 5, []), ("c", 1, -1, ["no", "no"]), ("d", 2, 0, ["c", "zz"]), ("e", 3, 12, ["e"]),
    ("f", 3, 0, []), ("g", 1, 0, []), ("hh", 0, -1, []), ("i", 0, 3000, ["a"]),
]
NESTED_TEXT = (
    "1 a >d\n  e b =\n  - c >no >no\n    i d >c >zz\n      12 e = >e\n      13 f\n  f g\n- hh\n3000 i = >a\n"
)
LONGEST = [(2 * name, min(at, 3), 2888, ["aa", "bb"]) for at, name in enumerate("abcdefghi")]
SIGNS = " \n=>-ai12A"


def bent(text):
    """Texts near to a text."""
    for at in range(len(text) + 1):
        for sign in SIGNS:
            yield text[:at] + sign + text[at:]
            yield text[:at] + sign + text[at + 1:]
        yield text[:at] + text[at + 1:]
        yield text[:at]
        yield text[at:]
    rows = text.split("\n")[:-1]
    for at in range(len(rows)):
        yield "\n".join(rows[:at] + rows[at + 1:]) + "\n"
        yield "\n".join(rows[:at] + [rows[at]] + rows[at:]) + "\n"
        yield "\n".join(rows[:at] + [""] + rows[at:]) + "\n"
        for other in range(at):
            changed = list(rows)
            changed[at], changed[other] = changed[other], changed[at]
            yield "\n".join(changed) + "\n"


class Written(unittest.TestCase):
    def test_no_items(self):
        for manner in MANNERS:
            self.assertEqual(written([], manner), "")

    def test_row_by_row(self):
        self.assertEqual(written(NESTED, FLR), NESTED_TEXT)
        self.assertEqual(
            written(NESTED, ["roman", "figures", "letters", "roman"]),
            "i a >d\n  5 b =\n  - c >no >no\n    a d >c >zz\n      xii e = >e\n      xiii f\n  6 g\n- hh\nmmm i = >a\n",
        )

    def test_each_depth_and_each_manner(self):
        deep = [("a", 0, 0, []), ("b", 1, 0, []), ("c", 2, 0, []), ("d", 3, 0, [])]
        self.assertEqual(written(deep, FIGURES), "1 a\n  1 b\n    1 c\n      1 d\n")
        self.assertEqual(written(deep, ["letters"] * 4), "a a\n  a b\n    a c\n      a d\n")
        self.assertEqual(written(deep, FLR), "1 a\n  a b\n    i c\n      1 d\n")

    def test_the_own_number_not_the_mark(self):
        outline = [("a", 0, 7, []), ("b", 1, 2, []), ("c", 1, 0, [])]
        self.assertEqual(written(outline, FIGURES), "7 a =\n  2 b =\n  3 c\n")

    def test_begun_anew_at_the_number_it_would_have(self):
        self.assertEqual(written([("a", 0, 1, []), ("b", 0, 2, []), ("c", 0, 0, [])], FIGURES), "1 a =\n2 b =\n3 c\n")

    def test_pointings(self):
        self.assertEqual(written([("a", 0, 0, ["a", "a"])], FIGURES), "1 a >a >a\n")
        self.assertEqual(written([("a", 0, 4, ["zz", "b"])], FIGURES), "4 a = >zz >b\n")
        self.assertEqual(written([("a", 0, -1, ["zz"])], FIGURES), "- a >zz\n")

    def test_outlines_of_all_sizes(self):
        for turn, outline in enumerate(mixed_outlines(600)):
            manner = MANNERS[turn // 10 % len(MANNERS)]
            text = written(outline, manner)
            self.assertIs(type(text), str)
            self.assertEqual(text, said_text(outline, manner))

    def test_the_longest_goes_both_ways(self):
        text = written(LONGEST, ["roman"] * 4)
        self.assertEqual(len(text), 34 * 9 - 6 - 4 - 2)
        self.assertEqual(shown(read(text, ["roman"] * 4)), ("Read", {"outline": LONGEST}))


class ReadBack(unittest.TestCase):
    def check(self, text, manner, name, **fields):
        self.assertEqual(shown(read(text, manner)), (name, fields), text)

    def broken(self, text, row, manner=FIGURES):
        self.check(text, manner, "Broken", row=row)

    def test_no_rows(self):
        for manner in MANNERS:
            self.check("", manner, "Read", outline=[])

    def test_nested(self):
        self.check(NESTED_TEXT, FLR, "Read", outline=NESTED)

    def test_small_outlines(self):
        for count in range(5):
            for outline in outlines_of(count, (0, 1, -1)):
                self.check(said_text(outline, FLR), FLR, "Read", outline=outline)

    def test_outlines_of_all_sizes(self):
        for turn, outline in enumerate(mixed_outlines(600)):
            manner = MANNERS[turn // 10 % len(MANNERS)]
            self.check(said_text(outline, manner), manner, "Read", outline=outline)

    def test_by_another_manner(self):
        for turn, outline in enumerate(mixed_outlines(120)):
            text = said_text(outline, MANNERS[turn // 10 % len(MANNERS)])
            for manner in MANNERS:
                self.assertEqual(shown(read(text, manner)), said_read(text, manner))

    def test_bent_texts(self):
        for text, manner in (
            (NESTED_TEXT, FLR),
            (said_text(NESTED, FIGURES), FIGURES),
            ("1 a =\n2 b\n  1 c >d\n", FIGURES),
            ("i a\n  a b =\n  - c\n", ["roman", "letters", "roman", "roman"]),
            ("- a\n  - b >a >b\n    - i\n      a j\n", ["letters"] * 4),
        ):
            for other in bent(text):
                if len(other) <= 320:
                    self.assertEqual(shown(read(other, manner)), said_read(other, manner), other)

    def test_bent_mixed_texts(self):
        for turn, outline in enumerate(mixed_outlines(30)):
            manner = MANNERS[turn // 5 % len(MANNERS)]
            for at, other in enumerate(bent(said_text(outline, manner))):
                if at % 11 == turn % 11 and len(other) <= 320:
                    self.assertEqual(shown(read(other, manner)), said_read(other, manner), other)

    def test_rows_without_an_end(self):
        self.broken("1 a", 0)
        self.broken("1", 0)
        self.broken(" ", 0)
        self.broken("1 a\n2 b", 1)
        self.broken("1 a\n ", 1)
        self.broken("1 a\n?\n2 b", 1)
        self.broken("1 a\n3 b\n3 c", 1)
        self.broken(NESTED_TEXT[:-1], 8, FLR)

    def test_rows_without_a_sign(self):
        self.broken("\n", 0)
        self.broken("\n\n", 0)
        self.broken("1 a\n\n", 1)
        self.broken("1 a\n\n2 b\n", 1)
        self.broken("\n1 a\n", 0)

    def test_wrong_numbers(self):
        for row in ("0 a", "2 a", "01 a", "i a", "a a", "+1 a", "-1 a", " 1 a", "1. a", "3001 a =", "3099 a =", "0 a =",
                    "- a =", "00 a =", "a a =", "-1 a =", "10000 a =", "= a", "= a =", " a", " a ="):
            self.broken(row + "\n", 0)
            self.broken("4 b =\n" + row + "\n", 1)
        self.check("3000 a =\n3001 b\n", FIGURES, "Read", outline=[("a", 0, 3000, []), ("b", 0, 0, [])])
        self.broken("1 a\n1 b\n", 1)
        self.broken("1 a\n  2 b\n", 1)
        self.broken("1 a\n  1 b\n  1 c\n", 2)
        self.broken("1 a\n- b\n3 c\n", 2)

    def test_kinds_by_depth(self):
        for row in ("i c", "1 c", "b c", "A c"):
            self.broken("1 a\n  " + row + "\n", 1, FLR)
        self.check("1 a\n  i c =\n", FLR, "Read", outline=[("a", 0, 0, []), ("c", 1, 9, [])])
        self.broken("1 a\n  iv c =\n    i d\n      i e\n", 3, FLR)

    def test_wrong_names(self):
        for row in ("1", "1 ", "1 A", "1 abc", "1 1", "1 a1", "1 =", "1 >a", "1 >a a", "1  a", "1 a ", "1\ta", "1 -",
                    "1 a.", "1a"):
            self.broken(row + "\n", 0)
            self.broken("1 z\n" + row.replace("1 ", "2 ") + "\n2 y\n", 1)
        self.broken("1 a\n2 a\n", 1)
        self.broken("1 a\n  1 b\n2 b\n", 2)

    def test_wrong_signs_behind_the_name(self):
        for row in ("a = =", "a >b =", "a =>b", "a >b>c", "a >", "a > b", "a >b >c >d", "a b", "a  >b", "a >B",
                    "a >abc", "a >b ", "a = ", "a  =", "a <b", "a bb", "a >=", "a >>b", "a -", "a = b", "a ?b",
                    "a = >b =", "a >b = >c", "a >1", "a =="):
            self.broken("1 " + row + "\n", 0)
            self.broken("1 z\n2 y\n3 " + row + "\n3 x\n", 2)

    def test_wrong_depths(self):
        for row in (" 1 a", "  1 a", "    1 a", "\t1 a"):
            self.broken(row + "\n", 0)
        for row in (" 1 b", "   1 b", "    1 b", "      1 b", "        1 b", "\t1 b", "  \t1 b"):
            self.broken("1 a\n" + row + "\n", 1)
        deep = "1 a\n  1 b\n    1 c\n      1 d\n"
        for row in ("        1 e", "       2 e", "          1 e", "        - e", "     2 e"):
            self.broken(deep + row + "\n", 4)
        self.broken(deep + " " * 200 + "1 e\n", 4)

    def test_a_tenth_row(self):
        rows = [f"{at + 1} {name}\n" for at, name in enumerate(NAMES)]
        self.check("".join(rows[:9]), FIGURES, "Read", outline=[(name, 0, 0, []) for name in NAMES[:9]])
        self.broken("".join(rows), 9)
        self.broken("".join(rows[:9]) + "x", 9)
        self.broken("".join(rows[:9]) + "\n", 9)

    def test_the_first_of_several_wrong_rows(self):
        self.broken("?\n?\n", 0)
        self.broken("1 a\n?\n!\n2 b", 1)
        self.broken("1 a\n2 b\n4 c\n4 d\n4 e", 2)
        self.broken("- a\n- a\n?", 1)

    def test_the_longest_texts(self):
        self.broken("x" * 320, 0)
        self.broken("\n" * 320, 0)
        self.broken(NESTED_TEXT + "x" * (320 - len(NESTED_TEXT)), 9, FLR)
        self.broken(NESTED_TEXT + "\n" * (320 - len(NESTED_TEXT)), 9, FLR)
        text = said_text(LONGEST, ["roman"] * 4)
        self.broken(text + " " * (320 - len(text)), 9, ["roman"] * 4)

    def test_only_row_ends_part_rows(self):
        for sign in ("\r", "\t", "\x0b", "\x0c", "\x1c", "\x1d", "\x1e"):
            self.broken("1 a" + sign + "\n", 0)
            self.broken("1 a" + sign + "2 b\n", 0)
            self.broken("1 a\n" + sign, 1)

    def test_kinds_of_values(self):
        told = read(NESTED_TEXT, FLR)
        self.assertIs(type(told), answers.Read)
        self.assertEqual({type(item) for item in told.outline}, {tuple})
        self.assertEqual({tuple(type(part) for part in item) for item in told.outline}, {(str, int, int, list)})
        told = read("?\n", FLR)
        self.assertIs(type(told), answers.Broken)
        self.assertIs(type(told.row), int)


class Refused(unittest.TestCase):
    def test_no_outline(self):
        for outline in BAD_OUTLINES + wrong_kinds(list):
            self.assertIs(told_class(written, outline, FLR), BadOutline)

    def test_no_manner(self):
        for manner in BAD_MANNERS + wrong_kinds(list):
            self.assertIs(told_class(written, [], manner), BadManner)
            self.assertIs(told_class(written, NESTED, manner), BadManner)
            for text in ("", "?", NESTED_TEXT, "x" * 320):
                self.assertIs(told_class(read, text, manner), BadManner)

    def test_no_text(self):
        for text in wrong_kinds(str) + ["x" * 321, "\n" * 321, "1 a\n" * 81, "x" * 322, "x" * 100000]:
            self.assertIs(told_class(read, text, FLR), BadText)
        self.assertIs(told_class(read, NESTED_TEXT + "x" * (321 - len(NESTED_TEXT)), FLR), BadText)

    def test_of_two_faults_the_first(self):
        for manner in BAD_MANNERS + [None, True, 1, Hostile(), LikeAll()]:
            for outline in BAD_OUTLINES:
                self.assertIs(told_class(written, outline, manner), BadOutline)
            for text in (None, True, 1, b"", "x" * 321, Hostile()):
                self.assertIs(told_class(read, text, manner), BadText)

    def test_just_within_the_bounds(self):
        for manner in MANNERS:
            self.assertIsNone(told_class(written, LONGEST, manner))
            for text in ("", "x" * 319, "x" * 320, " " * 320):
                self.assertIsNone(told_class(read, text, manner))


if __name__ == "__main__":
    unittest.main()
