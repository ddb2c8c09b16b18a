"""Promise 8: a desk, the deeds on it, what they change, and their refusals."""

import copy
import inspect
import random
import unittest

from listmarks.deeds import Desk
from listmarks.errors import BadDeed, BadItem, BadManner, BadNumber, NoItem
from tests.helpers import (
    BAD_MANNERS, FIGURES, MANNERS, Hostile, LikeAll, as_put, mixed_outlines, outlines_of, said_changes, said_deed,
    said_marks, said_outline, told_class, wrong_kinds,
)

FLR = ["figures", "letters", "roman", "figures"]
NESTED = [
    ("a", 0, 0, ["d"]), ("b", 1, 0, []), ("c", 2, 4, ["a", "no"]), ("d", 2, 0, []), ("e", 1, -1, []), ("f", 2, 0, []),
    ("g", 0, 0, []),
]
BAD_ITEMS = [
    (), ("a",), ("x", 0, 0), ("x", 0, 0, [], []), ["x", 0, 0, []], ("", 0, 0, []), ("xyz", 0, 0, []), ("X", 0, 0, []),
    (None, 0, 0, []), (b"x", 0, 0, []), ("x", -1, 0, []), ("x", 4, 0, []), ("x", True, 0, []), ("x", "0", 0, []),
    ("x", None, 0, []), ("x", 0, -2, []), ("x", 0, 3001, []), ("x", 0, False, []), ("x", 0, None, []),
    ("x", 0, 0, ()), ("x", 0, 0, None), ("x", 0, 0, "a"), ("x", 0, 0, ["a", "b", "c"]), ("x", 0, 0, ["A"]),
    ("x", 0, 0, [""]), ("x", 0, 0, [None]), ("x", 0, 0, [1]), ("x", 0, 0, {"a": 1}), (Hostile(), 0, 0, []),
    ("x", Hostile(), 0, []), ("x", 0, Hostile(), []), ("x", 0, 0, Hostile()), ("x", 0, 0, [Hostile()]),
    (LikeAll(), 0, 0, []), ("x", LikeAll(), 0, []), ("x", 0, LikeAll(), []), ("x", 0, 0, [LikeAll()]),
]
BAD_POINTS = [
    ("a",), ("a", "b"), "ab", "a", ["a", "b", "c"], ["a"] * 50, [""], ["A"], ["abc"], ["a", ""], [None], [1], [True],
    [["a"]], [b"a"], ["a", None], [Hostile()], ["a", LikeAll()], {"a": 1}, ["a ", "b"], ["a\n"],
]


def some_deeds(outline):
    """All sorts of deeds with good arguments on an outline; no outline must come of them."""
    count = len(outline)
    items = [("x", depth, begin, ["a"]) for depth in range(4) for begin in (0, -1, 7)]
    deeds = [("put", place, item) for place in range(count + 1) for item in items]
    deeds += [("put", place, ("b", 0, 0, [])) for place in (0, count)]
    for name, *_ in outline:
        deeds.append(("take", name))
        deeds += [("shift", name, by) for by in range(-3, 4)]
        deeds += [("begin", name, how) for how in (-1, 0, 1, 2, 3000)]
        deeds += [("point", name, names) for names in ([], ["a"], ["zz", name], [name, name])]
        deeds += [("move", name, place) for place in range(len(said_deed(outline, "take", name)) + 1)]
    return deeds


class DeedCase(unittest.TestCase):
    def lies(self, desk, outline, manner):
        """Check what is told of the desk as it lies."""
        self.assertEqual(desk.listed(), outline)
        names = [item[0] for item in outline]
        self.assertEqual(desk.marks(), list(zip(names, said_marks(outline, manner))))

    def do(self, desk, outline, manner, deed, *handed):
        """Do a deed, check all that comes of it, and tell the items as they should lie then."""
        wanted = said_deed(outline, deed, *handed)
        if not said_outline(wanted):
            self.assertIs(told_class(getattr(desk, deed), *handed), BadDeed, (deed, handed))
            wanted = outline
        else:
            told = getattr(desk, deed)(*copy.deepcopy(handed))
            self.assertEqual(told, said_changes(outline, wanted, manner), (deed, handed))
        self.lies(desk, wanted, manner)
        return wanted


class Told(DeedCase):
    def test_nothing_at_first(self):
        for manner in MANNERS:
            self.lies(Desk(manner), [], manner)
            self.assertEqual(Desk(manner).listed(), [])
            self.assertEqual(Desk(manner).marks(), [])

    def test_listed_and_marks(self):
        desk = as_put(Desk(FLR), NESTED)
        self.assertEqual(desk.listed(), NESTED)
        self.assertEqual(desk.marks(), [
            ("a", "1"), ("b", "1.a"), ("c", "1.a.iv"), ("d", "1.a.v"), ("e", ""), ("f", "1.i"), ("g", "2"),
        ])

    def test_put(self):
        desk = Desk(FLR)
        self.assertEqual(desk.put(0, ("m", 0, 0, [])), [("m", None, "1")])
        self.assertEqual(desk.put(0, ("z", 0, 0, [])), [("m", "1", "2"), ("z", None, "1")])
        self.assertEqual(desk.put(1, ("a", 1, 5, ["q"])), [("a", None, "1.e")])
        self.assertEqual(desk.put(1, ("k", 0, -1, [])), [("a", "1.e", "e"), ("k", None, "")])
        self.assertEqual(desk.listed(), [("z", 0, 0, []), ("k", 0, -1, []), ("a", 1, 5, ["q"]), ("m", 0, 0, [])])
        self.assertEqual(desk.put(4, ("aa", 1, 0, [])), [("aa", None, "2.a")])

    def test_take(self):
        desk = as_put(Desk(FLR), NESTED)
        self.assertEqual(desk.take("b"), [("b", "1.a", None), ("c", "1.a.iv", None), ("d", "1.a.v", None)])
        self.assertEqual(desk.listed(), [NESTED[0], *NESTED[4:]])
        self.assertEqual(desk.take("a"), [("a", "1", None), ("e", "", None), ("f", "1.i", None), ("g", "2", "1")])
        self.assertEqual(desk.take("g"), [("g", "1", None)])
        self.assertEqual(desk.listed(), [])

    def test_move(self):
        desk = as_put(Desk(FLR), NESTED)
        self.assertEqual(desk.move("g", 0), [
            ("a", "1", "2"), ("b", "1.a", "2.a"), ("c", "1.a.iv", "2.a.iv"), ("d", "1.a.v", "2.a.v"),
            ("f", "1.i", "2.i"), ("g", "2", "1"),
        ])
        self.assertEqual(desk.move("b", 4), [])
        self.assertEqual([item[0] for item in desk.listed()], ["g", "a", "e", "f", "b", "c", "d"])
        self.assertEqual(desk.move("e", 1), [("f", "2.i", "1.i")])
        self.assertEqual([item[0] for item in desk.listed()], ["g", "e", "f", "a", "b", "c", "d"])

    def test_shift(self):
        desk = as_put(Desk(FLR), NESTED)
        self.assertEqual(desk.shift("g", 1), [("g", "2", "1.b")])
        self.assertEqual(desk.shift("e", -1), [("f", "1.i", "a"), ("g", "1.b", "b")])
        self.assertEqual(desk.shift("b", 0), [])
        self.assertEqual([item[1] for item in desk.listed()], [0, 1, 2, 2, 0, 1, 1])

    def test_begin(self):
        desk = as_put(Desk(FLR), NESTED)
        self.assertEqual(desk.begin("c", 0), [("c", "1.a.iv", "1.a.i"), ("d", "1.a.v", "1.a.ii")])
        self.assertEqual(desk.begin("a", -1), [
            ("a", "1", ""), ("b", "1.a", "a"), ("c", "1.a.i", "a.i"), ("d", "1.a.ii", "a.ii"), ("f", "1.i", "i"),
            ("g", "2", "1"),
        ])
        self.assertEqual(desk.begin("g", 1), [])
        self.assertEqual(desk.begin("g", 3000), [("g", "1", "3000")])
        self.assertEqual(desk.listed()[-1], ("g", 0, 3000, []))

    def test_point(self):
        desk = as_put(Desk(FLR), NESTED)
        for names in ([], ["a"], ["a", "a"], ["zz", "a"], ["e", "no"]):
            self.assertEqual(desk.point("e", names), [])
            self.assertEqual(desk.listed()[4], ("e", 1, -1, names))
        self.lies(desk, NESTED[:4] + [("e", 1, -1, ["e", "no"])] + NESTED[5:], FLR)

    def test_pointings_keep_to_their_items(self):
        desk = as_put(Desk(FLR), NESTED)
        desk.take("d")
        desk.move("g", 0)
        self.assertEqual(desk.listed()[1], ("a", 0, 0, ["d"]))
        desk.put(0, ("d", 0, 0, []))
        self.assertEqual(desk.listed()[2], ("a", 0, 0, ["d"]))

    def test_in_order_of_names_not_in_turn(self):
        outline = [(name, 0, 0, []) for name in ("z", "b", "ab", "aa", "a", "ba")]
        desk = as_put(Desk(FIGURES), outline)
        self.assertEqual([name for name, _, _ in desk.begin("z", 9)], ["a", "aa", "ab", "b", "ba", "z"])
        self.assertEqual([name for name, _, _ in desk.put(0, ("ac", 0, 2, []))], ["ac"])
        self.assertEqual([name for name, _, _ in desk.take("z")], ["a", "aa", "ab", "b", "ba", "z"])

    def test_only_at_or_behind_the_changed_place(self):
        desk = as_put(Desk(FIGURES), [(name, 0, 0, []) for name in "abcdefgh"])
        for place in range(9):
            told = desk.put(place, ("x", 0, 0, []))
            self.assertEqual([name for name, _, _ in told], list("abcdefgh"[place:]) + ["x"])
            desk.take("x")

    def test_each_deed_on_small_outlines(self):
        for count in range(4):
            for outline in outlines_of(count, (0, -1)):
                for deed in some_deeds(outline):
                    self.do(as_put(Desk(FLR), outline), outline, FLR, *deed)

    def test_each_deed_on_mixed_outlines(self):
        for turn, outline in enumerate(mixed_outlines(10)):
            manner = MANNERS[turn % len(MANNERS)]
            for deed in some_deeds(outline):
                self.do(as_put(Desk(manner), outline), outline, manner, *deed)

    def test_many_deeds_one_behind_the_other(self):
        dice = random.Random(8)
        for manner in MANNERS:
            desk = Desk(manner)
            outline = []
            for _ in range(250):
                if len(outline) < 7 and dice.random() < 0.4:
                    begin = dice.choice([0, 0, 0, -1, 1, 26])
                    item = (dice.choice("abcdefghij"), dice.randint(0, 3), begin, [dice.choice("abz")])
                    deed = ("put", dice.randint(0, len(outline)), item)
                else:
                    deed = dice.choice(some_deeds(outline))
                outline = self.do(desk, outline, manner, *deed)

    def test_a_deed_and_its_undoing(self):
        for turn, outline in enumerate(mixed_outlines(20)):
            manner = MANNERS[turn % len(MANNERS)]
            desk = as_put(Desk(manner), outline)
            for deed, *handed in some_deeds(outline):
                wanted = said_deed(outline, deed, *handed)
                if not said_outline(wanted) or deed == "take":
                    continue
                told = getattr(desk, deed)(*handed)
                back = self.undo(desk, outline, wanted, deed, *handed)
                if back is not None:
                    self.assertEqual(back, [(name, after, before) for name, before, after in told])
                    self.lies(desk, outline, manner)
                else:
                    desk = as_put(Desk(manner), outline)

    def test_what_was_taken_is_put_back(self):
        for turn, outline in enumerate(mixed_outlines(40)):
            manner = MANNERS[turn % len(MANNERS)]
            desk = as_put(Desk(manner), outline)
            for place, item in enumerate(outline):
                desk.take(item[0])
                many = len(outline) - len(desk.listed())
                for at in range(place, place + many):
                    desk.put(at, outline[at])
                self.lies(desk, outline, manner)

    def undo(self, desk, outline, wanted, deed, *handed):
        """Undo a deed by another one; None if there is no such."""
        names = [item[0] for item in outline]
        if deed == "put":
            place, item = handed
            behind = wanted[place + 1:place + 2]
            if behind and behind[0][1] > item[1]:
                return None
            return desk.take(item[0])
        place = names.index(handed[0])
        if deed == "begin":
            return desk.begin(handed[0], outline[place][2])
        if deed == "point":
            return desk.point(handed[0], outline[place][3])
        many = len(outline) - len(said_deed(outline, "take", handed[0]))
        if many != len(wanted) - len(said_deed(wanted, "take", handed[0])):
            return None
        return desk.shift(handed[0], -handed[1]) if deed == "shift" else desk.move(handed[0], place)

    def test_two_desks_beside_each_other(self):
        first = as_put(Desk(FLR), NESTED)
        second = as_put(Desk(FIGURES), NESTED[:2])
        second.put(0, ("z", 0, -1, []))
        first.take("b")
        second.begin("b", 9)
        self.lies(first, [NESTED[0], *NESTED[4:]], FLR)
        self.lies(second, [("z", 0, -1, []), NESTED[0], ("b", 1, 9, [])], FIGURES)

    def test_kinds_of_values(self):
        desk = as_put(Desk(FLR), NESTED)
        for told in (
            desk.put(0, ("x", 0, 0, [])), desk.take("x"), desk.move("g", 0), desk.shift("g", 0), desk.begin("a", 7),
            desk.point("a", []), desk.listed(), desk.marks(),
        ):
            self.assertIs(type(told), list)
            self.assertLessEqual({type(part) for part in told}, {tuple})
        self.assertEqual({tuple(type(part) for part in item) for item in desk.listed()}, {(str, int, int, list)})

    def test_arguments(self):
        listed = {
            "listed": [], "marks": [], "put": ["place", "item"], "take": ["name"], "move": ["name", "place"],
            "shift": ["name", "by"], "begin": ["name", "how"], "point": ["name", "names"],
        }
        self.assertEqual(list(inspect.signature(Desk).parameters), ["manner"])
        for name, wanted in listed.items():
            self.assertEqual(list(inspect.signature(vars(Desk)[name]).parameters)[1:], wanted)


class NoOutline(DeedCase):
    def refused(self, outline, deed, *handed):
        """No outline comes of the deed: it is refused, and nothing changes."""
        desk = as_put(Desk(FLR), outline)
        self.assertIs(told_class(getattr(desk, deed), *handed), BadDeed, (deed, handed))
        self.lies(desk, outline, FLR)

    def test_a_tenth_item(self):
        nine = [(name, 0, 0, []) for name in "abcdefghi"]
        for place in range(10):
            self.refused(nine, "put", place, ("j", 0, 0, []))
        desk = as_put(Desk(FLR), nine)
        desk.take("e")
        self.assertEqual(desk.put(8, ("j", 0, 0, [])), [("j", None, "9")])

    def test_a_name_twice(self):
        for place in range(8):
            for name in "abcdefg":
                self.refused(NESTED, "put", place, (name, 0, 0, []))

    def test_put_too_deep(self):
        self.refused([], "put", 0, ("x", 1, 0, []))
        self.refused([], "put", 0, ("x", 3, 0, []))
        self.refused(NESTED, "put", 0, ("x", 1, 0, []))
        self.refused(NESTED, "put", 1, ("x", 2, 0, []))
        self.refused(NESTED, "put", 7, ("x", 2, 0, []))
        self.refused(NESTED, "put", 2, ("x", 3, 0, []))

    def test_put_so_that_another_one_is_too_deep(self):
        self.refused(NESTED, "put", 2, ("x", 0, 0, []))
        self.refused(NESTED, "put", 3, ("x", 0, -1, []))
        self.refused(NESTED, "put", 5, ("x", 0, 0, []))

    def test_move(self):
        self.refused(NESTED, "move", "b", 0)
        self.refused(NESTED, "move", "c", 0)
        self.refused(NESTED, "move", "d", 1)
        self.refused(NESTED, "move", "d", 6)
        self.refused(NESTED, "move", "g", 2)
        self.refused(NESTED, "move", "f", 1)

    def test_shift(self):
        for by in (-3, -2, -1, 1, 2, 3):
            self.refused(NESTED, "shift", "a", by)
        for name, wrong in {
            "b": (-3, -2, 1, 2, 3), "c": (-3, -2, 1, 2, 3), "d": (-3, 2, 3), "e": (-3, -2, 2, 3), "f": (-3, 1, 2, 3),
            "g": (-3, -2, -1),
        }.items():
            for by in wrong:
                self.refused(NESTED, "shift", name, by)
            for by in set(range(-3, 4)) - set(wrong):
                self.assertIsNone(told_class(as_put(Desk(FLR), NESTED).shift, name, by))

    def test_shift_beyond_the_least_and_the_greatest_depth(self):
        deep = [("a", 0, 0, []), ("b", 1, 0, []), ("c", 2, 0, []), ("d", 3, 0, []), ("e", 3, 0, [])]
        self.refused(deep, "shift", "e", 1)
        self.refused(deep, "shift", "d", 1)
        wide = [("a", 0, 0, []), ("b", 0, 0, []), ("c", 1, 0, []), ("d", 2, 0, []), ("e", 3, 0, [])]
        self.refused(wide, "shift", "b", 1)
        self.refused([("a", 0, 0, []), ("b", 0, 0, []), ("c", 1, 0, [])], "shift", "b", -1)

    def test_it_goes_on_behind_a_refusal(self):
        desk = as_put(Desk(FLR), NESTED)
        wrong = [("put", 0, ("x", 1, 0, [])), ("move", "b", 0), ("shift", "a", 3), ("put", 3, ("a", 0, 0, []))]
        for deed, *handed in wrong:
            self.assertIs(told_class(getattr(desk, deed), *handed), BadDeed)
        self.assertEqual(desk.shift("g", 1), [("g", "2", "1.b")])


class Refused(DeedCase):
    def setUp(self):
        self.desk = as_put(Desk(FLR), NESTED)

    def refused(self, wanted, deed, *handed):
        self.assertIs(told_class(getattr(self.desk, deed), *handed), wanted, deed)

    def tearDown(self):
        self.lies(self.desk, NESTED, FLR)

    def test_no_manner(self):
        for manner in BAD_MANNERS + wrong_kinds(list):
            self.assertIs(told_class(Desk, manner), BadManner)

    def test_no_item_to_put(self):
        for item in BAD_ITEMS + wrong_kinds(tuple) + [NESTED]:
            self.refused(BadItem, "put", 0, item)
        for part in wrong_kinds(str):
            self.refused(BadItem, "put", 0, (part, 0, 0, []))
        for part in wrong_kinds(int):
            self.refused(BadItem, "put", 0, ("x", part, 0, []))
            self.refused(BadItem, "put", 0, ("x", 0, part, []))
        for part in wrong_kinds(list):
            self.refused(BadItem, "put", 0, ("x", 0, 0, part))

    def test_no_place_to_put(self):
        for place in wrong_kinds(int) + [-1, -2, 8, 9, 10, 1000, 10 ** 5000, -(10 ** 5000)]:
            self.refused(BadNumber, "put", place, ("x", 0, 0, []))
        for place in (-1, 1, 2):
            self.assertIs(told_class(Desk(FLR).put, place, ("x", 0, 0, [])), BadNumber)

    def test_no_name(self):
        names = wrong_kinds(str) + ["", "x", "A", "aa", "abc", "a ", " a", "no", "a\n", "1", "b" * 1000]
        for name in names:
            self.refused(NoItem, "take", name)
            self.refused(NoItem, "move", name, 0)
            self.refused(NoItem, "shift", name, 0)
            self.refused(NoItem, "begin", name, 0)
            self.refused(NoItem, "point", name, [])
            self.assertIs(told_class(Desk(FLR).take, name), NoItem)

    def test_no_place_to_move_to(self):
        for place in wrong_kinds(int) + [-1, -2, 7, 8, 100, 10 ** 5000, -(10 ** 5000)]:
            self.refused(BadNumber, "move", "g", place)
        for name, most in (("a", 1), ("b", 4), ("c", 6), ("e", 5), ("f", 6), ("g", 6)):
            self.refused(BadNumber, "move", name, most + 1)
            self.assertIsNot(told_class(self.desk.move, name, most), BadNumber)
            self.desk = as_put(Desk(FLR), NESTED)

    def test_no_number_to_shift_by(self):
        for by in wrong_kinds(int) + [-4, 4, 5, -5, 1000, 10 ** 5000, -(10 ** 5000)]:
            self.refused(BadNumber, "shift", "g", by)

    def test_no_begin(self):
        for how in wrong_kinds(int) + [-2, -3, 3001, 3002, 3099, 10 ** 5000, -(10 ** 5000)]:
            self.refused(BadNumber, "begin", "g", how)

    def test_no_names_to_point_at(self):
        for names in BAD_POINTS + wrong_kinds(list):
            self.refused(BadItem, "point", "g", names)
        for name in wrong_kinds(str):
            self.refused(BadItem, "point", "g", [name])
            self.refused(BadItem, "point", "g", ["a", name])

    def test_of_two_faults_the_first(self):
        for item in BAD_ITEMS + [None, True, Hostile()]:
            for place in (-1, 8, None, True, Hostile()):
                self.refused(BadItem, "put", place, item)
        for place in (-1, 8, None, "0", Hostile(), LikeAll()):
            self.refused(BadNumber, "put", place, ("a", 0, 0, []))
            self.refused(BadNumber, "put", place, ("x", 3, 0, []))
            self.refused(BadNumber, "move", "b", place)
        for wrong in (-5, 4000, None, True, [], Hostile(), LikeAll(), ["A"]):
            for name in (None, "x", True, 0, ["a"], Hostile(), LikeAll()):
                for deed in ("move", "shift", "begin", "point"):
                    self.refused(NoItem, deed, name, wrong)
        for by in (-4, 4):
            self.refused(BadNumber, "shift", "a", by)
        nine = as_put(Desk(FLR), [(name, 0, 0, []) for name in "abcdefghi"])
        self.assertIs(told_class(nine.put, 10, ("j", 0, 0, [])), BadNumber)
        self.assertIs(told_class(nine.put, 9, ("j", 4, 0, [])), BadItem)
        self.assertIs(told_class(nine.put, 9, ("j", 0, 0, [])), BadDeed)

    def test_just_within_the_bounds(self):
        desk = Desk(FLR)
        self.assertIsNone(told_class(desk.put, 0, ("a", 0, 3000, ["zz", "zz"])))
        self.assertIsNone(told_class(desk.put, 1, ("zz", 0, -1, [])))
        self.assertIsNone(told_class(desk.move, "a", 1))
        self.assertIsNone(told_class(desk.move, "a", 0))
        self.assertIsNone(told_class(desk.begin, "a", -1))
        self.assertIsNone(told_class(desk.begin, "a", 3000))
        self.assertIsNone(told_class(desk.point, "a", ["a", "zz"]))
        self.assertIs(told_class(desk.shift, "a", 3), BadDeed)
        self.assertIs(told_class(desk.shift, "a", -3), BadDeed)
        desk = as_put(Desk(FLR), [("a", 0, 0, []), ("b", 1, 0, []), ("c", 2, 0, []), ("d", 3, 0, [])])
        self.assertIsNone(told_class(desk.shift, "d", -3))
        self.assertIs(told_class(desk.shift, "d", 4), BadNumber)
        self.assertIsNone(told_class(desk.shift, "d", 3))


if __name__ == "__main__":
    unittest.main()
