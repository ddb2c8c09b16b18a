"""Promise 5, promise 7, and their refusals."""

import unittest

from listmarks.errors import BadManner, BadOutline
from listmarks.marks import marks, pointed, stale
from tests.helpers import (
    BAD_MANNERS, BAD_OUTLINES, FIGURES, MANNERS, Hostile, mixed_outlines, outlines_of, said_mark, told_class,
    wrong_kinds,
)

FLR = ["figures", "letters", "roman", "figures"]
NESTED = [
    ("a", 0, 0, ["d"]), ("b", 1, 0, ["a", "no"]), ("c", 2, 4, []), ("d", 3, 0, ["e", "e"]), ("e", 1, -1, ["e"]),
    ("f", 2, 0, ["q", "q"]), ("g", 1, 27, ["h", "b"]), ("h", 0, -1, []), ("i", 1, 0, ["x", "i"]),
]


class Marks(unittest.TestCase):
    def test_no_items(self):
        for manner in MANNERS:
            self.assertEqual(marks([], manner), [])

    def test_in_figures_letters_and_roman_figures(self):
        self.assertEqual(marks(NESTED, FLR), ["1", "1.a", "1.a.iv", "1.a.iv.1", "", "1.i", "1.aa", "", "a"])

    def test_by_several_manners(self):
        self.assertEqual(marks(NESTED, FIGURES), ["1", "1.1", "1.1.4", "1.1.4.1", "", "1.1", "1.27", "", "1"])
        self.assertEqual(marks(NESTED, ["letters"] * 4), ["a", "a.a", "a.a.d", "a.a.d.a", "", "a.a", "a.aa", "", "a"])
        self.assertEqual(
            marks(NESTED, ["roman"] * 4), ["i", "i.i", "i.i.iv", "i.i.iv.i", "", "i.i", "i.xxvii", "", "i"]
        )
        self.assertEqual(
            marks(NESTED, ["letters", "roman", "figures", "letters"]),
            ["a", "a.i", "a.i.4", "a.i.4.a", "", "a.1", "a.xxvii", "", "i"],
        )

    def test_left_out_at_each_depth(self):
        deep = [("a", 0, 0, []), ("b", 1, 0, []), ("c", 2, 0, []), ("d", 3, 0, [])]
        wanted = [["", "a", "a.i", "a.i.1"], ["1", "", "1.i", "1.i.1"], ["1", "1.a", "", "1.a.1"],
                  ["1", "1.a", "1.a.i", ""]]
        for out in range(4):
            outline = [(name, depth, -1 if depth == out else 0, []) for name, depth, _, _ in deep]
            self.assertEqual(marks(outline, FLR), wanted[out])

    def test_all_above_left_out(self):
        outline = [("a", 0, -1, []), ("b", 1, -1, []), ("c", 2, -1, []), ("d", 3, 12, []), ("e", 3, 0, [])]
        self.assertEqual(marks(outline, ["letters", "letters", "letters", "roman"]), ["", "", "", "xii", "xiii"])

    def test_two_bear_the_same_mark(self):
        outline = [("a", 0, 0, []), ("b", 0, 1, []), ("c", 1, 0, []), ("d", 1, 1, []), ("e", 0, -1, []), ("f", 1, 0, [])]
        self.assertEqual(marks(outline, FIGURES), ["1", "1", "1.1", "1.1", "", "1"])

    def test_greatest_numbers(self):
        outline = [("a", 0, 3000, []), ("b", 1, 3000, []), ("c", 1, 0, []), ("d", 2, 0, [])]
        self.assertEqual(
            marks(outline, ["letters", "roman", "figures", "figures"]),
            ["dkj", "dkj.mmm", "dkj.mmmi", "dkj.mmmi.1"],
        )

    def test_all_small_outlines(self):
        for count in range(5):
            for outline in outlines_of(count, (0, 4, -1)):
                for manner in MANNERS:
                    wanted = [said_mark(outline, manner, place) for place in range(count)]
                    self.assertEqual(marks(outline, manner), wanted)

    def test_mixed_outlines(self):
        for turn, outline in enumerate(mixed_outlines(1500)):
            manner = MANNERS[turn // 10 % len(MANNERS)]
            wanted = [said_mark(outline, manner, place) for place in range(len(outline))]
            self.assertEqual(marks(outline, manner), wanted)

    def test_kinds_of_values(self):
        told = marks(NESTED, FLR)
        self.assertIs(type(told), list)
        self.assertEqual({type(mark) for mark in told}, {str})


class Pointings(unittest.TestCase):
    def test_no_items(self):
        self.assertEqual(pointed([], FLR), [])
        self.assertEqual(stale([]), [])

    def test_all_sorts(self):
        self.assertEqual(pointed(NESTED, FLR), [
            ["1.a.iv.1"], ["1", None], [], ["", ""], [""], [None, None], ["", "1.a"], [], [None, "a"],
        ])
        self.assertEqual(stale(NESTED), [("b", "no"), ("f", "q"), ("f", "q"), ("i", "x")])

    def test_at_itself(self):
        self.assertEqual(pointed([("a", 0, 3, ["a", "a"])], ["roman"] * 4), [["iii", "iii"]])
        self.assertEqual(stale([("a", 0, 3, ["a", "a"])]), [])

    def test_at_left_out_ones(self):
        outline = [("a", 0, -1, ["a", "b"]), ("b", 1, 0, ["a"])]
        self.assertEqual(pointed(outline, FIGURES), [["", "1"], [""]])
        self.assertEqual(stale(outline), [])

    def test_at_names_that_no_item_has(self):
        outline = [("a", 0, 0, ["z", "b"]), ("b", 0, -1, ["aa", "bb"]), ("c", 1, 0, ["ab", "z"])]
        self.assertEqual(pointed(outline, FIGURES), [[None, ""], [None, None], [None, None]])
        self.assertEqual(stale(outline), [("a", "z"), ("b", "aa"), ("b", "bb"), ("c", "ab"), ("c", "z")])

    def test_the_same_name_twice(self):
        outline = [("b", 0, 0, ["y", "y"]), ("a", 0, 0, ["b", "b"])]
        self.assertEqual(pointed(outline, FIGURES), [[None, None], ["1", "1"]])
        self.assertEqual(stale(outline), [("b", "y"), ("b", "y")])

    def test_stale_in_turn_not_in_order(self):
        outline = [("c", 0, 0, ["z", "x"]), ("a", 0, 0, ["y", "w"])]
        self.assertEqual(stale(outline), [("c", "z"), ("c", "x"), ("a", "y"), ("a", "w")])

    def test_mixed_outlines(self):
        for turn, outline in enumerate(mixed_outlines(1500)):
            manner = MANNERS[turn // 10 % len(MANNERS)]
            where = {item[0]: place for place, item in enumerate(outline)}
            wanted = [
                [said_mark(outline, manner, where[name]) if name in where else None for name in item[3]]
                for item in outline
            ]
            self.assertEqual(pointed(outline, manner), wanted)
            lost = [(item[0], name) for item in outline for name in item[3] if name not in where]
            self.assertEqual(stale(outline), lost)

    def test_kinds_of_values(self):
        told = pointed(NESTED, FLR)
        self.assertIs(type(told), list)
        self.assertEqual({type(row) for row in told}, {list})
        lost = stale(NESTED)
        self.assertIs(type(lost), list)
        self.assertEqual({type(pair) for pair in lost}, {tuple})


class Refused(unittest.TestCase):
    def test_no_outline(self):
        for outline in BAD_OUTLINES + wrong_kinds(list):
            self.assertIs(told_class(marks, outline, FLR), BadOutline)
            self.assertIs(told_class(pointed, outline, FLR), BadOutline)
            self.assertIs(told_class(stale, outline), BadOutline)

    def test_no_manner(self):
        for manner in BAD_MANNERS + wrong_kinds(list):
            for outline in ([], NESTED):
                self.assertIs(told_class(marks, outline, manner), BadManner)
                self.assertIs(told_class(pointed, outline, manner), BadManner)

    def test_a_wrong_kind_at_each_depth(self):
        for kind in wrong_kinds(str) + ["", "Figures", "roman ", "letter", "r", "1"]:
            for depth in range(4):
                manner = list(FLR)
                manner[depth] = kind
                for outline in ([], [("a", 0, -1, [])], NESTED):
                    self.assertIs(told_class(marks, outline, manner), BadManner)
                    self.assertIs(told_class(pointed, outline, manner), BadManner)

    def test_of_two_faults_the_first(self):
        for outline in BAD_OUTLINES:
            for manner in BAD_MANNERS + [None, True, 1, Hostile()]:
                self.assertIs(told_class(marks, outline, manner), BadOutline)
                self.assertIs(told_class(pointed, outline, manner), BadOutline)

    def test_just_within_the_bounds(self):
        outline = [("abcdefghi"[at], min(at, 3), (-1, 3000, 0)[at % 3], ["zz", "a"]) for at in range(9)]
        for manner in MANNERS:
            self.assertIsNone(told_class(marks, outline, manner))
            self.assertIsNone(told_class(pointed, outline, manner))
        self.assertIsNone(told_class(stale, outline))


if __name__ == "__main__":
    unittest.main()
