"""Promises 3 and 4, and the refusals of outlines."""

import unittest

from listmarks.errors import BadOutline
from listmarks.outlines import numbers, parents
from tests.helpers import (
    Hostile, LikeAll, mixed_outlines, outlines_of, said_number, said_parent, shapes, told_class, wrong_kinds,
)


def plain(*pairs):
    """An outline of items with these depths and begins."""
    return [("abcdefghi"[at], depth, begin, []) for at, (depth, begin) in enumerate(pairs)]


class Told(unittest.TestCase):
    def check(self, outline, wanted_parents, wanted_numbers):
        self.assertEqual(parents(outline), wanted_parents)
        self.assertEqual(numbers(outline), wanted_numbers)

    def test_no_items(self):
        self.check([], [], [])

    def test_one_item(self):
        self.check(plain((0, 0)), [-1], [1])
        self.check(plain((0, 1)), [-1], [1])
        self.check(plain((0, 3000)), [-1], [3000])
        self.check(plain((0, -1)), [-1], [None])

    def test_side_by_side(self):
        self.check(plain((0, 0), (0, 0), (0, 0)), [-1, -1, -1], [1, 2, 3])

    def test_four_deep_and_back(self):
        outline = plain((0, 0), (1, 0), (2, 0), (3, 0), (3, 0), (1, 0), (2, 0), (0, 0), (1, 0))
        self.check(outline, [-1, 0, 1, 2, 2, 0, 5, -1, 7], [1, 1, 1, 1, 2, 2, 1, 2, 1])

    def test_back_over_several_depths(self):
        outline = plain((0, 0), (1, 0), (2, 0), (3, 0), (0, 0), (1, 0), (2, 0), (3, 0), (1, 0))
        self.check(outline, [-1, 0, 1, 2, -1, 4, 5, 6, 4], [1, 1, 1, 1, 2, 1, 1, 1, 2])

    def test_begun_anew(self):
        self.check(plain((0, 0), (0, 7), (0, 0), (0, 2), (0, 0)), [-1] * 5, [1, 7, 8, 2, 3])
        self.check(plain((0, 5), (1, 3000), (1, 0), (0, 0), (1, 0)), [-1, 0, 0, -1, 3], [5, 3000, 3001, 6, 1])

    def test_begun_anew_above_does_not_count_below(self):
        self.check(plain((0, 4), (1, 0), (0, 0), (1, 9), (0, 0)), [-1, 0, -1, 2, -1], [4, 1, 5, 9, 6])

    def test_the_greatest_number(self):
        self.check(plain((0, 3000), *[(0, 0)] * 8), [-1] * 9, list(range(3000, 3009)))

    def test_left_out(self):
        self.check(plain((0, 0), (0, -1), (0, 0)), [-1, -1, -1], [1, None, 2])
        self.check(plain((0, -1), (0, -1), (0, 0)), [-1, -1, -1], [None, None, 1])
        self.check(plain((0, 8), (0, -1), (0, -1), (0, 0)), [-1] * 4, [8, None, None, 9])

    def test_left_out_above_others(self):
        outline = plain((0, 0), (0, -1), (1, 0), (1, 0), (2, -1), (3, 0), (0, 0), (1, 0))
        self.check(outline, [-1, -1, 1, 1, 3, 4, -1, 6], [1, None, 1, 2, None, 1, 2, 1])

    def test_each_parent_has_a_count_of_its_own(self):
        outline = plain((0, 0), (1, 0), (1, 0), (0, -1), (1, 0), (0, 0), (1, -1), (1, 0))
        self.check(outline, [-1, 0, 0, -1, 3, -1, 5, 5], [1, 1, 2, None, 1, 2, None, 1])

    def test_all_small_outlines(self):
        for count in range(6):
            for outline in outlines_of(count, (0, 6, -1)):
                places = range(count)
                self.check(
                    outline,
                    [said_parent(outline, place) for place in places],
                    [said_number(outline, place) for place in places],
                )

    def test_mixed_outlines(self):
        for outline in mixed_outlines(2000):
            places = range(len(outline))
            self.check(
                outline,
                [said_parent(outline, place) for place in places],
                [said_number(outline, place) for place in places],
            )

    def test_kinds_of_values(self):
        outline = plain((0, 0), (1, -1), (1, 5))
        self.assertEqual([type(value) for value in parents(outline)], [int, int, int])
        self.assertEqual([type(value) for value in numbers(outline)], [int, type(None), int])
        self.assertIs(type(parents(outline)), list)
        self.assertIs(type(numbers(outline)), list)


class Refused(unittest.TestCase):
    def refused(self, outline):
        self.assertIs(told_class(parents, outline), BadOutline)
        self.assertIs(told_class(numbers, outline), BadOutline)

    def goes(self, outline):
        self.assertIsNone(told_class(parents, outline))
        self.assertIsNone(told_class(numbers, outline))

    def both_places(self, item):
        """An item at the first place and behind a good one."""
        self.refused([item])
        self.refused([("zz", 0, 0, []), item])

    def test_no_list(self):
        for value in wrong_kinds(list):
            self.refused(value)
        self.refused((("a", 0, 0, []),))
        self.refused({"a": ("a", 0, 0, [])})

    def test_no_items_in_it(self):
        for value in wrong_kinds(tuple):
            self.both_places(value)
        self.both_places(["a", 0, 0, []])

    def test_too_few_or_too_many_parts(self):
        for item in ((), ("a",), ("a", 0), ("a", 0, 0), ("a", 0, 0, [], []), ("a", 0, 0, [], None, 1), ("a", 0, [], 0)):
            self.both_places(item)

    def test_no_name(self):
        for name in wrong_kinds(str) + [
            "", "aaa", "abcd", "A", "Z", "aB", "Ab", " ", "a ", " a", "1", "a1", "1a", "-", "a\n", "\n", "`", "{", "a.",
        ]:
            self.both_places((name, 0, 0, []))

    def test_no_depth(self):
        for depth in wrong_kinds(int) + [-1, -2, 4, 5, 10 ** 5000, -(10 ** 5000)]:
            self.both_places(("a", depth, 0, []))

    def test_no_begin(self):
        for begin in wrong_kinds(int) + [-2, -3, -3000, 3001, 3002, 3099, 10 ** 5000, -(10 ** 5000)]:
            self.both_places(("a", 0, begin, []))

    def test_no_pointings(self):
        for points in wrong_kinds(list) + [("a",), ("a", "b"), "ab", ["a", "b", "c"], ["a"] * 3, ["a"] * 50]:
            self.both_places(("a", 0, 0, points))

    def test_no_names_among_pointings(self):
        for name in wrong_kinds(str) + ["", "aaa", "A", "a ", "1", "a\n", "-", "`", "{"]:
            self.both_places(("a", 0, 0, [name]))
            self.both_places(("a", 0, 0, ["a", name]))
            self.both_places(("a", 0, 0, [name, "a"]))

    def test_too_many_items(self):
        self.goes(plain(*[(0, 0)] * 9))
        names = "abcdefghijklmnopqrstuvwxyz"
        for many in (10, 11, 26):
            self.refused([(names[at], 0, 0, []) for at in range(many)])

    def test_like_names(self):
        self.refused([("a", 0, 0, []), ("a", 0, 0, [])])
        self.refused([("a", 0, 0, []), ("b", 1, 0, []), ("a", 1, -1, [])])
        self.refused([("ab", 0, 0, []), ("b", 0, 0, []), ("c", 0, 0, []), ("ab", 0, 0, [])])
        self.goes([("a", 0, 0, []), ("aa", 0, 0, []), ("b", 0, 0, []), ("ab", 0, 0, []), ("ba", 0, 0, [])])

    def test_too_deep(self):
        for depths in ([1], [2], [3], [0, 2], [0, 3], [0, 1, 3], [0, 1, 0, 2], [0, 0, 2], [1, 0], [0, 1, 2, 0, 2]):
            self.refused(plain(*[(depth, 0) for depth in depths]))

    def test_every_row_of_depths(self):
        for count in range(1, 5):
            good = shapes(count)
            for code in range(6 ** count):
                row = [code // 6 ** at % 6 - 1 for at in range(count)]
                outline = plain(*[(depth, 0) for depth in row])
                if row in good:
                    self.goes(outline)
                else:
                    self.refused(outline)

    def test_just_within_the_bounds(self):
        self.goes(plain((0, 0), (1, 0), (2, 0), (3, 0)))
        self.goes(plain((0, 0), (1, 0), (2, 0), (3, 0), (0, 0)))
        for begin in (-1, 0, 1, 2, 2999, 3000):
            self.goes([("a", 0, begin, [])])
        for name in ("a", "z", "aa", "az", "za", "zz"):
            self.goes([(name, 0, 0, [])])
        for points in ([], ["a"], ["a", "a"], ["zz", "a"], ["b", "c"]):
            self.goes([("a", 0, 0, points)])

    def test_two_faults_at_once(self):
        self.refused([("a", 5, 0, []), ("a", 0, -2, [])])
        self.refused([Hostile(), ("a", 0, 0, []), ("a", 0, 0, [])])
        self.refused([("a", 0, 0, []), LikeAll(), ("a", 0, 0, [])])
        self.refused([("a", 0, 0, []), ("a", 0, 0, [Hostile()])])
        self.refused([(LikeAll(), 0, 0, []), ("a", 0, 0, [])])


if __name__ == "__main__":
    unittest.main()
