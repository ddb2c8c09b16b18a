"""Promise 1: what is handed in stays as it was and is not kept; what is told is new."""

import copy
import inspect
import unittest

from listmarks.answers import Broken, Found, Nobody, Read, Twice
from listmarks.deeds import Desk
from listmarks.leading import leads
from listmarks.marks import marks, pointed, stale
from listmarks.numerals import number_of, numeral
from listmarks.outlines import numbers, parents
from listmarks.texts import read, written
from tests.helpers import as_put, shown, told_class

CALLS = {
    "parents": lambda outline, manner: parents(outline),
    "numbers": lambda outline, manner: numbers(outline),
    "marks": marks,
    "pointed": pointed,
    "stale": lambda outline, manner: stale(outline),
    "written": lambda outline, manner: [written(outline, manner)],
    "leads": lambda outline, manner: [shown(leads(outline, manner, text)) for text in ("1", "i", "1.g", "2.x", "")],
    "desk, listed": lambda outline, manner: as_put(Desk(manner), outline).listed(),
    "desk, marks": lambda outline, manner: as_put(Desk(manner), outline).marks(),
    "read": lambda outline, manner: read(written(outline, manner), manner).outline,
}


def fresh():
    """An outline and a manner that share nothing with earlier ones."""
    outline = [
        ("a", 0, 0, ["b", "no"]), ("b", 1, 7, ["no", "no"]), ("c", 1, -1, []), ("d", 2, 0, ["a"]),
        ("e", 0, 0, ["b", "no"]),
    ]
    return outline, ["figures", "letters", "roman", "figures"]


def spoil(told):
    """Change all lists of an answer."""
    for part in told:
        for list_within in [part] + (list(part) if isinstance(part, tuple) else []):
            if isinstance(list_within, list):
                list_within.append("spoilt")
                list_within.reverse()
    told.append("spoilt")
    told.reverse()


class Handing(unittest.TestCase):
    def test_counted_from_0(self):
        outline, manner = fresh()
        self.assertEqual(parents(outline), [-1, 0, 0, 2, -1])

    def test_what_is_handed_in_stays(self):
        for name, call in CALLS.items():
            with self.subTest(name):
                outline, manner = fresh()
                items = list(outline)
                points = [item[3] for item in outline]
                call(outline, manner)
                self.assertEqual((outline, manner), fresh())
                for at, item in enumerate(items):
                    self.assertIs(outline[at], item)
                    self.assertIs(outline[at][3], points[at])

    def test_what_is_refused_stays(self):
        outline, manner = fresh()
        outline.append(("a", 5, 9000, ["a", "b", "c"]))
        manner.append("figures")
        before = copy.deepcopy((outline, manner))
        for call in CALLS.values():
            with self.assertRaises(ValueError):
                call(outline, manner)
            self.assertEqual((outline, manner), before)

    def test_what_is_told_may_be_changed(self):
        for name, call in CALLS.items():
            with self.subTest(name):
                outline, manner = fresh()
                told = call(outline, manner)
                wanted = copy.deepcopy(told)
                spoil(told)
                self.assertEqual((outline, manner), fresh())
                self.assertEqual(call(outline, manner), wanted)
                self.assertEqual(call(*fresh()), wanted)

    def test_what_is_told_is_new_each_time(self):
        for name, call in CALLS.items():
            with self.subTest(name):
                outline, manner = fresh()
                self.assertIsNot(call(outline, manner), call(outline, manner))
        outline, manner = fresh()
        rows = pointed(outline, manner) + pointed(outline, manner) + [item[3] for item in outline]
        self.assertEqual(len({id(row) for row in rows}), len(rows))

    def test_an_outline_changed_in_place_is_told_anew(self):
        for name, call in CALLS.items():
            with self.subTest(name):
                outline, manner = fresh()
                call(outline, manner)
                outline[0] = ("x", 0, 4, ["b"])
                outline[3][3].append("q")
                outline[4:] = [("f", 2, 0, []), ("g", 0, 0, ["x", "a"])]
                self.assertEqual(call(outline, manner), call(copy.deepcopy(outline), list(manner)))
        self.assertEqual(parents(outline), [-1, 0, 0, 2, 2, -1])
        self.assertEqual(numbers(outline), [4, 7, None, 1, 2, 5])
        self.assertEqual(marks(outline, manner), ["4", "4.g", "", "4.i", "4.ii", "5"])
        self.assertEqual(pointed(outline, manner), [["4.g"], [None, None], [], [None, None], [], ["4", None]])
        self.assertEqual(stale(outline), [("b", "no"), ("b", "no"), ("d", "a"), ("d", "q"), ("g", "a")])

    def test_a_manner_changed_in_place_is_told_anew(self):
        outline, manner = fresh()
        self.assertEqual(marks(outline, manner), ["1", "1.g", "", "1.i", "2"])
        manner[:] = ["roman", "figures", "letters", "roman"]
        self.assertEqual(marks(outline, manner), ["i", "i.7", "", "i.a", "ii"])
        self.assertEqual(pointed(outline, manner), [["i.7", None], [None, None], [], ["i"], ["i.7", None]])

    def test_a_list_made_wrong_in_place_is_refused(self):
        for name, call in CALLS.items():
            with self.subTest(name):
                outline, manner = fresh()
                call(outline, manner)
                outline[0][3].append("c")
                self.assertRaises(ValueError, call, outline, manner)
                outline[0][3].pop()
                call(outline, manner)

    def test_the_arguments_are_as_listed(self):
        listed = {
            numeral: ["number", "kind"], number_of: ["text", "kind"], parents: ["outline"], numbers: ["outline"],
            marks: ["outline", "manner"], pointed: ["outline", "manner"], stale: ["outline"],
            leads: ["outline", "manner", "text"], written: ["outline", "manner"], read: ["text", "manner"],
        }
        for function, wanted in listed.items():
            self.assertEqual(list(inspect.signature(function).parameters), wanted)


class Shown(unittest.TestCase):
    def test_what_is_handed_in_stays(self):
        outline, manner = fresh()
        text = written(outline, manner)
        for answer in (Found("a"), Twice("a", "b"), Nobody(1)):
            answer.shows(outline, manner, "1")
        for answer in (Read(outline), Broken(1)):
            answer.shows(text, manner)
        self.assertEqual((outline, manner), fresh())

    def test_a_shown_answer_stays(self):
        outline, manner = fresh()
        answer = Read(outline)
        within = [item[3] for item in answer.outline]
        answer.shows(written(outline, manner), manner)
        self.assertEqual(answer.outline, outline)
        for at, points in enumerate(within):
            self.assertIs(answer.outline[at][3], points)

    def test_a_field_is_new(self):
        outline, manner = fresh()
        answer = Read(outline)
        spoil(answer.outline)
        self.assertEqual((outline, manner), fresh())
        answer = Read(outline)
        spoil(outline)
        self.assertEqual(answer.outline, fresh()[0])

    def test_fields_of_two_answers_share_nothing(self):
        outline, manner = fresh()
        text = written(outline, manner)
        first = read(text, manner)
        second = read(text, manner)
        third = Read(first.outline)
        spoil(first.outline)
        self.assertEqual(second.outline, outline)
        self.assertEqual(third.outline, outline)
        self.assertEqual(read(text, manner).outline, outline)


class OfDesks(unittest.TestCase):
    def setUp(self):
        self.outline, self.manner = fresh()
        self.desk = as_put(Desk(self.manner), self.outline)
        self.marks = [("a", "1"), ("b", "1.g"), ("c", ""), ("d", "1.i"), ("e", "2")]

    def lies(self):
        self.assertEqual(self.desk.listed(), fresh()[0])
        self.assertEqual(self.desk.marks(), self.marks)

    def test_the_manner_is_not_kept(self):
        self.manner[:] = ["roman"] * 4
        self.lies()
        self.manner.clear()
        self.lies()
        self.assertEqual(self.desk.put(5, ("x", 1, 2, [])), [("x", None, "2.b")])

    def test_the_manner_stays(self):
        self.desk.begin("a", 3)
        self.desk.take("b")
        self.assertEqual(self.manner, fresh()[1])

    def test_an_item_is_not_kept(self):
        points = ["a"]
        item = ("x", 0, 0, points)
        self.desk.put(5, item)
        points.append("b")
        points.append("c")
        self.assertEqual(self.desk.listed()[5], ("x", 0, 0, ["a"]))
        self.desk.listed()[5][3].append("q")
        self.assertEqual(item, ("x", 0, 0, ["a", "b", "c"]))
        self.desk.take("x")
        self.lies()

    def test_names_pointed_at_are_not_kept(self):
        names = ["a"]
        self.desk.point("c", names)
        names.append("b")
        self.assertEqual(self.desk.listed()[2], ("c", 1, -1, ["a"]))
        self.desk.point("e", names)
        names.clear()
        self.assertEqual(self.desk.listed()[4], ("e", 0, 0, ["a", "b"]))
        self.desk.point("a", self.desk.listed()[4][3])
        self.desk.point("e", [])
        self.assertEqual(self.desk.listed()[0], ("a", 0, 0, ["a", "b"]))

    def test_what_is_handed_in_stays(self):
        item = ("x", 0, 0, ["a", "no"])
        names = ["b", "zz"]
        self.desk.put(0, item)
        self.desk.point("x", names)
        self.desk.begin("x", 9)
        self.desk.move("x", 5)
        self.desk.shift("x", 1)
        self.desk.take("x")
        self.assertEqual(item, ("x", 0, 0, ["a", "no"]))
        self.assertEqual(names, ["b", "zz"])
        self.lies()

    def test_what_is_refused_stays(self):
        item = ("x", 2, 0, ["a"])
        names = ["a", "b", "c"]
        self.assertIsNotNone(told_class(self.desk.put, 0, item))
        self.assertIsNotNone(told_class(self.desk.point, "a", names))
        self.assertEqual((item, names), (("x", 2, 0, ["a"]), ["a", "b", "c"]))
        self.lies()

    def test_what_is_told_may_be_changed(self):
        for told in (self.desk.listed(), self.desk.marks(), self.desk.begin("a", 0), self.desk.shift("a", 0)):
            spoil(told)
            self.lies()
        told = self.desk.begin("a", 7)
        spoil(told)
        self.desk.begin("a", 0)
        self.lies()

    def test_what_is_told_stays_when_the_desk_changes(self):
        listed = self.desk.listed()
        told = self.desk.marks()
        self.desk.point("a", [])
        self.desk.take("b")
        self.desk.begin("a", 40)
        self.assertEqual(listed, fresh()[0])
        self.assertEqual(told, self.marks)

    def test_what_is_told_is_new_each_time(self):
        lists = [self.desk.listed(), self.desk.listed(), self.desk.marks(), self.desk.marks()]
        lists += [item[3] for item in lists[0]] + [item[3] for item in lists[1]] + [item[3] for item in self.outline]
        self.assertEqual(len({id(one) for one in lists}), len(lists))

    def test_two_desks_share_nothing(self):
        other = as_put(Desk(self.manner), self.desk.listed())
        other.point("a", ["e"])
        other.take("b")
        other.listed()[0][3].clear()
        self.lies()
        self.assertEqual(other.listed()[0], ("a", 0, 0, ["e"]))


if __name__ == "__main__":
    unittest.main()
