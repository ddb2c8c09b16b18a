"""Promise 6: what a mark leads to, and its refusals."""

import unittest

from listmarks import answers
from listmarks.errors import BadManner, BadOutline, BadText
from listmarks.leading import leads
from tests.helpers import (
    BAD_MANNERS, BAD_OUTLINES, FIGURES, MANNERS, Hostile, LikeAll, mixed_outlines, outlines_of, said_leads,
    said_marks, shown, told_class, wrong_kinds,
)

FLR = ["figures", "letters", "roman", "figures"]
NESTED = [
    ("a", 0, 0, []), ("b", 1, 0, []), ("c", 2, 4, []), ("d", 3, 0, []), ("e", 1, -1, []), ("f", 2, 0, []),
    ("g", 1, 27, []), ("h", 0, -1, []), ("i", 1, 0, []),
]
OTHER_PARTS = ["1", "2", "a", "b", "i", "", "-", "01"]


def bent(mark):
    """Texts near to a mark, and the mark itself."""
    parts = mark.split(".")
    texts = [mark, mark + ".", "." + mark, mark + "." + mark, mark + "..", mark + " ", " " + mark, mark.upper()]
    texts += [mark + "." + part for part in OTHER_PARTS] + [part + "." + mark for part in OTHER_PARTS]
    texts += [".".join(parts[:many]) for many in range(len(parts))]
    texts += [".".join(parts[many:]) for many in range(len(parts))]
    texts += [mark[:at] + mark[at + 1:] for at in range(len(mark))]
    texts += [".".join(parts[:at] + [part] + parts[at + 1:]) for at in range(len(parts)) for part in OTHER_PARTS]
    texts += [".".join(parts[:at] + parts[at + 1:]) for at in range(len(parts))]
    return [text for text in dict.fromkeys(texts) if len(text) <= 60]


class Told(unittest.TestCase):
    def check(self, outline, manner, text, made, **fields):
        self.assertEqual(shown(leads(outline, manner, text)), (made, fields), text)

    def test_found(self):
        for text, name in {
            "1": "a", "1.a": "b", "1.a.iv": "c", "1.a.iv.1": "d", "1.i": "f", "1.aa": "g", "a": "i",
        }.items():
            self.check(NESTED, FLR, text, "Found", name=name)

    def test_twice(self):
        self.check(NESTED, FIGURES, "1.1", "Twice", one="b", other="f")
        self.check(NESTED, FIGURES, "1", "Twice", one="a", other="i")
        self.check([("z", 0, 1, []), ("a", 0, 1, [])], FIGURES, "1", "Twice", one="z", other="a")

    def test_the_first_two_of_three_and_of_nine(self):
        three = [("c", 0, 5, []), ("x", 0, 0, []), ("b", 0, 5, []), ("a", 0, 5, [])]
        self.check(three, ["roman"] * 4, "v", "Twice", one="c", other="b")
        nine = [(name, 0, 3000, []) for name in "ihgfedcba"]
        self.check(nine, ["roman"] * 4, "mmm", "Twice", one="i", other="h")

    def test_twice_over_several_depths(self):
        outline = [("a", 0, -1, []), ("b", 1, 0, []), ("c", 2, 0, []), ("d", 0, 0, []), ("e", 1, 0, [])]
        self.check(outline, FIGURES, "1", "Twice", one="b", other="d")
        self.check(outline, FIGURES, "1.1", "Twice", one="c", other="e")
        self.check(outline, FLR, "a", "Found", name="b")
        self.check(outline, FLR, "1", "Found", name="d")

    def test_nobody(self):
        for text, parts in {
            "2": 0, "1.b": 1, "1.a.v": 2, "1.a.iv.2": 3, "1.a.iv.1.1": 4, "1.a.iv.1.1.1": 4, "a.1": 1, "1.1": 1,
            "1.": 1, "1.a.": 2, ".1": 0, "1..a": 1, "..": 0, ".": 0, "1.i.x": 2, "a.a": 1, "A": 0, "1 ": 0, "11": 0,
            "1.aaa": 1, "-": 0, "-.1": 0, "1,a": 0, "a.iv": 1, "1.1.1.1": 1, "1.a.iv.": 3, "1.a.iv.1.": 4, "1.aa.aa": 2,
        }.items():
            self.check(NESTED, FLR, text, "Nobody", parts=parts)

    def test_the_text_of_no_sign(self):
        for outline in ([], NESTED, [("a", 0, -1, [])], [("a", 0, -1, []), ("b", 1, -1, []), ("c", 0, -1, [])]):
            for manner in MANNERS:
                self.check(outline, manner, "", "Nobody", parts=0)

    def test_left_out_ones_lead_nowhere(self):
        for text in (".", ".1", "..", ".a", "1", "1.1"):
            self.check([("a", 0, -1, []), ("b", 1, -1, [])], FIGURES, text, "Nobody", parts=0)

    def test_through_those_below_left_out_ones(self):
        outline = [("a", 0, 0, []), ("b", 1, -1, []), ("c", 2, 3, []), ("d", 3, 7, []), ("e", 1, 0, [])]
        self.check(outline, FLR, "1.iii.7", "Found", name="d")
        for text, parts in {
            "1.iii.8": 2, "1.iii.7.1": 3, "1.iv": 1, "1..iii": 1, "1.a.iii": 2, "1.a.7": 2, "iii": 0,
        }.items():
            self.check(outline, FLR, text, "Nobody", parts=parts)

    def test_at_the_most_over_several_items(self):
        outline = [("a", 0, 0, []), ("b", 0, 1, []), ("c", 1, 2, []), ("d", 0, 1, []), ("e", 1, 2, []), ("f", 2, 0, [])]
        for text, parts in {"1.2.1.1": 3, "1.2.2": 2, "1.3": 1, "2.2.1": 0}.items():
            self.check(outline, FIGURES, text, "Nobody", parts=parts)

    def test_no_items(self):
        for text in ("", "1", "a.b", ".", "x" * 60):
            self.check([], FLR, text, "Nobody", parts=0)

    def test_longest_texts(self):
        long = [("a", 0, 2888, []), ("b", 1, 2888, []), ("c", 2, 2888, []), ("d", 3, 2888, [])]
        roman = ["roman"] * 4
        mark = ".".join(["mmdccclxxxviii"] * 4)
        self.check(long, roman, mark, "Found", name="d")
        self.check(long, roman, mark + ".", "Nobody", parts=4)
        self.check(long, roman, mark + "i", "Nobody", parts=3)
        self.check(long, roman, "i" + mark, "Nobody", parts=0)
        self.assertEqual(len(mark + "."), 60)
        self.assertIs(told_class(leads, long, roman, mark + ".i"), BadText)
        self.check([("a", 0, 0, [])], FIGURES, "1." * 30, "Nobody", parts=1)

    def check_near_marks(self, outline, manner):
        marks = said_marks(outline, manner)
        for mark in dict.fromkeys(["", "1", *marks]):
            for text in bent(mark):
                self.assertEqual(shown(leads(outline, manner, text)), said_leads(outline, marks, text), text)

    def test_near_each_mark_of_small_outlines(self):
        for count in range(4):
            for outline in outlines_of(count, (0, 1, -1)):
                self.check_near_marks(outline, FIGURES)
                self.check_near_marks(outline, FLR)

    def test_near_each_mark_of_mixed_outlines(self):
        for turn, outline in enumerate(mixed_outlines(40)):
            self.check_near_marks(outline, MANNERS[turn // 10 % len(MANNERS)])

    def test_kinds_of_values(self):
        self.assertIs(type(leads(NESTED, FLR, "1")), answers.Found)
        self.assertIs(type(leads(NESTED, FLR, "1").name), str)
        self.assertIs(type(leads(NESTED, FIGURES, "1")), answers.Twice)
        self.assertIs(type(leads(NESTED, FLR, "x")), answers.Nobody)
        self.assertIs(type(leads(NESTED, FLR, "x").parts), int)


class Refused(unittest.TestCase):
    def test_no_outline(self):
        for outline in BAD_OUTLINES + wrong_kinds(list):
            self.assertIs(told_class(leads, outline, FLR, "1"), BadOutline)

    def test_no_manner(self):
        for manner in BAD_MANNERS + wrong_kinds(list):
            for outline in ([], NESTED):
                self.assertIs(told_class(leads, outline, manner, "1"), BadManner)

    def test_no_text(self):
        for text in wrong_kinds(str) + ["x" * 61, "1" * 61, "1." * 31, " " * 61, "x" * 62, "x" * 100000]:
            for outline in ([], NESTED):
                self.assertIs(told_class(leads, outline, FLR, text), BadText)

    def test_of_two_faults_the_first(self):
        for outline in BAD_OUTLINES:
            for manner in (FLR, None, [], Hostile(), LikeAll()):
                for text in (None, "x" * 61, Hostile()):
                    self.assertIs(told_class(leads, outline, manner, text), BadOutline)
        for manner in BAD_MANNERS + [None, True, 1, Hostile()]:
            for text in (None, True, "x" * 61, Hostile()):
                self.assertIs(told_class(leads, NESTED, manner, text), BadManner)

    def test_just_within_the_bounds(self):
        for text in ("x" * 60, "." * 60, " " * 60, ""):
            for manner in MANNERS:
                self.assertIsNone(told_class(leads, NESTED, manner, text))


if __name__ == "__main__":
    unittest.main()
