"""Promise 1: what is handed in stays as it was and is not kept; what is told is new."""

import copy
import inspect
import unittest

from listmarks.marks import marks, pointed, stale
from listmarks.numerals import number_of, numeral
from listmarks.outlines import numbers, parents

CALLS = {
    "parents": lambda outline, manner: parents(outline),
    "numbers": lambda outline, manner: numbers(outline),
    "marks": marks,
    "pointed": pointed,
    "stale": lambda outline, manner: stale(outline),
}


def fresh():
    """An outline and a manner that share nothing with earlier ones."""
    outline = [
        ("a", 0, 0, ["b", "no"]), ("b", 1, 7, ["no", "no"]), ("c", 1, -1, []), ("d", 2, 0, ["a"]), ("e", 0, 0, ["b", "no"]),
    ]
    return outline, ["figures", "letters", "roman", "figures"]


def spoil(told):
    """Change all lists of an answer."""
    for part in told:
        if isinstance(part, list):
            part.append("spoilt")
            part.reverse()
    told.append("spoilt")
    told.reverse()


class Handing(unittest.TestCase):
    def test_counted_from_0(self):
        outline, manner = fresh()
        self.assertEqual(parents(outline), [-1, 0, 0, 2, -1])

    def test_what_is_handed_in_stays(self):
        for name, call in CALLS.items():
            with self.subTest(name):
                outline, manner = fresh()
                items = list(outline)
                points = [item[3] for item in outline]
                call(outline, manner)
                self.assertEqual((outline, manner), fresh())
                for at, item in enumerate(items):
                    self.assertIs(outline[at], item)
                    self.assertIs(outline[at][3], points[at])

    def test_what_is_refused_stays(self):
        outline, manner = fresh()
        outline.append(("a", 5, 9000, ["a", "b", "c"]))
        manner.append("figures")
        before = copy.deepcopy((outline, manner))
        for call in CALLS.values():
            with self.assertRaises(ValueError):
                call(outline, manner)
            self.assertEqual((outline, manner), before)

    def test_what_is_told_may_be_changed(self):
        for name, call in CALLS.items():
            with self.subTest(name):
                outline, manner = fresh()
                told = call(outline, manner)
                wanted = copy.deepcopy(told)
                spoil(told)
                self.assertEqual((outline, manner), fresh())
                self.assertEqual(call(outline, manner), wanted)
                self.assertEqual(call(*fresh()), wanted)

    def test_what_is_told_is_new_each_time(self):
        for name, call in CALLS.items():
            with self.subTest(name):
                outline, manner = fresh()
                self.assertIsNot(call(outline, manner), call(outline, manner))
        outline, manner = fresh()
        rows = pointed(outline, manner) + pointed(outline, manner) + [item[3] for item in outline]
        self.assertEqual(len({id(row) for row in rows}), len(rows))

    def test_an_outline_changed_in_place_is_told_anew(self):
        for name, call in CALLS.items():
            with self.subTest(name):
                outline, manner = fresh()
                call(outline, manner)
                outline[0] = ("x", 0, 4, ["b"])
                outline[3][3].append("q")
                outline[4:] = [("f", 2, 0, []), ("g", 0, 0, ["x", "a"])]
                self.assertEqual(call(outline, manner), call(copy.deepcopy(outline), list(manner)))
        self.assertEqual(parents(outline), [-1, 0, 0, 2, 2, -1])
        self.assertEqual(numbers(outline), [4, 7, None, 1, 2, 5])
        self.assertEqual(marks(outline, manner), ["4", "4.g", "", "4.i", "4.ii", "5"])
        self.assertEqual(pointed(outline, manner), [["4.g"], [None, None], [], [None, None], [], ["4", None]])
        self.assertEqual(stale(outline), [("b", "no"), ("b", "no"), ("d", "a"), ("d", "q"), ("g", "a")])

    def test_a_manner_changed_in_place_is_told_anew(self):
        outline, manner = fresh()
        self.assertEqual(marks(outline, manner), ["1", "1.g", "", "1.i", "2"])
        manner[:] = ["roman", "figures", "letters", "roman"]
        self.assertEqual(marks(outline, manner), ["i", "i.7", "", "i.a", "ii"])
        self.assertEqual(pointed(outline, manner), [["i.7", None], [None, None], [], ["i"], ["i.7", None]])

    def test_a_list_made_wrong_in_place_is_refused(self):
        for name, call in CALLS.items():
            with self.subTest(name):
                outline, manner = fresh()
                call(outline, manner)
                outline[0][3].append("c")
                self.assertRaises(ValueError, call, outline, manner)
                outline[0][3].pop()
                call(outline, manner)

    def test_the_arguments_are_as_listed(self):
        listed = {
            numeral: ["number", "kind"], number_of: ["text", "kind"], parents: ["outline"], numbers: ["outline"],
            marks: ["outline", "manner"], pointed: ["outline", "manner"], stale: ["outline"],
        }
        for function, wanted in listed.items():
            self.assertEqual(list(inspect.signature(function).parameters), wanted)


if __name__ == "__main__":
    unittest.main()
