"""The answers of promises 6 and 10: their classes, their fields and what they show."""

import copy
import inspect
import unittest

from listmarks import answers
from listmarks.answers import Answer, Broken, Found, Nobody, Read, Twice
from listmarks.leading import leads
from listmarks.texts import read
from tests.helpers import (
    FIGURES, MANNERS, NAMES, mixed_outlines, outlines_of, said_leads, said_marks, said_read, said_text, shown,
)

FLR = ["figures", "letters", "roman", "figures"]
FAR = [-(10 ** 5000), -1000, -2, -1, 0, 1, 2, 3, 4, 5, 9, 10, 3000, 10 ** 5000]
NESTED = [
    ("a", 0, 0, ["b"]), ("b", 1, 0, []), ("c", 1, -1, ["no", "a"]), ("d", 2, 0, []), ("e", 0, 1, []),
    ("f", 1, 0, ["f"]),
]


class Classes(unittest.TestCase):
    def test_straight_under_answer(self):
        self.assertEqual(Answer.__bases__, (object,))
        for made in (Found, Twice, Nobody, Read, Broken):
            self.assertEqual(made.__bases__, (Answer,))
            self.assertIn("shows", vars(made))

    def test_arguments(self):
        listed = {Found: ["name"], Twice: ["one", "other"], Nobody: ["parts"], Read: ["outline"], Broken: ["row"]}
        for made, wanted in listed.items():
            self.assertEqual(list(inspect.signature(made).parameters), wanted)
        for made in (Found, Twice, Nobody):
            self.assertEqual(list(inspect.signature(made.shows).parameters)[1:], ["outline", "manner", "text"])
        for made in (Read, Broken):
            self.assertEqual(list(inspect.signature(made.shows).parameters)[1:], ["text", "manner"])

    def test_fields(self):
        self.assertEqual(vars(Found("a")), {"name": "a"})
        self.assertEqual(vars(Twice("a", "b")), {"one": "a", "other": "b"})
        self.assertEqual(vars(Nobody(-7)), {"parts": -7})
        self.assertEqual(vars(Read(NESTED)), {"outline": NESTED})
        self.assertEqual(vars(Broken(10 ** 50)), {"row": 10 ** 50})

    def test_there_is_no_other(self):
        own = [name for name in vars(answers) if isinstance(getattr(answers, name), type)]
        self.assertEqual(sorted(own), ["Answer", "Broken", "Found", "Nobody", "Read", "Twice"])

    def test_lists_within_are_copied(self):
        handed = copy.deepcopy(NESTED)
        answer = Read(handed)
        handed[0][3].append("z")
        handed.pop()
        self.assertEqual(answer.outline, NESTED)
        answer.outline[2][3].clear()
        answer.outline.clear()
        self.assertEqual(handed[2][3], ["no", "a"])
        self.assertEqual(len(handed), 5)
        again = Read(NESTED)
        self.assertFalse({id(item[3]) for item in again.outline} & {id(item[3]) for item in NESTED})


class Leading(unittest.TestCase):
    def some_answers(self, outline):
        names = [item[0] for item in outline] + ["zz", "A", ""]
        made = [Found(name) for name in names] + [Nobody(parts) for parts in range(-1, 6)]
        return made + [Twice(one, other) for one in names for other in names]

    def said_shows(self, answer, outline, marks, text):
        if isinstance(answer, Twice):
            bearing = [item[0] for item, mark in zip(outline, marks) if mark == text and text]
            return answer.one != answer.other and {answer.one, answer.other} <= set(bearing)
        return shown(answer) == said_leads(outline, marks, text)

    def check_all(self, outline, manner):
        marks = said_marks(outline, manner)
        near = [mark + end for mark in marks[:3] + marks[-1:] for end in ("", ".x")]
        for text in dict.fromkeys(["", "x" * 60, *near]):
            told = leads(outline, manner, text)
            self.assertIs(told.shows(outline, manner, text), True)
            for answer in self.some_answers(outline):
                wanted = self.said_shows(answer, outline, marks, text)
                self.assertIs(answer.shows(outline, manner, text), wanted)

    def test_small_outlines(self):
        for count in range(4):
            for outline in outlines_of(count, (0, 1, -1)):
                self.check_all(outline, FIGURES if count > 2 else FLR)

    def test_mixed_outlines(self):
        for turn, outline in enumerate(mixed_outlines(20)):
            self.check_all(outline, MANNERS[turn % len(MANNERS)])

    def test_found(self):
        self.assertIs(Found("b").shows(NESTED, FLR, "1.a"), False)
        self.assertIs(Found("d").shows(NESTED, FLR, "1.i"), True)
        for name in ("a", "b", "zz", "", "D", "dd"):
            self.assertIs(Found(name).shows(NESTED, FLR, "1.i"), False)
        self.assertIs(Found("c").shows(NESTED, FLR, ""), False)
        self.assertIs(Found("a").shows(NESTED, FLR, "1"), False)
        self.assertIs(Found("").shows([], FLR, ""), False)

    def test_twice(self):
        outline = [("x", 0, 1, []), ("b", 0, 1, []), ("c", 0, 0, []), ("a", 0, 1, [])]
        for one in "xbaczq":
            for other in "xbaczq":
                wanted = one != other and one in "xba" and other in "xba"
                self.assertIs(Twice(one, other).shows(outline, FIGURES, "1"), wanted)
        self.assertIs(Twice("c", "c").shows(outline, FIGURES, "2"), False)
        left = [("a", 0, -1, []), ("b", 0, -1, [])]
        self.assertIs(Twice("a", "b").shows(left, FIGURES, ""), False)
        self.assertIs(Twice("zz", "zz").shows(outline, FIGURES, "7"), False)

    def test_nobody(self):
        for parts in FAR:
            self.assertIs(Nobody(parts).shows(NESTED, FLR, "1.i.1"), parts == 2)
            self.assertIs(Nobody(parts).shows(NESTED, FLR, "1.b"), parts == 1)
            self.assertIs(Nobody(parts).shows(NESTED, FLR, ""), parts == 0)
            self.assertIs(Nobody(parts).shows(NESTED, FLR, "1"), False)
            self.assertIs(Nobody(parts).shows(NESTED, FLR, "1.i"), False)

    def test_by_the_fields_as_they_stand(self):
        answer = leads(NESTED, FLR, "1.i")
        answer.name = "a"
        self.assertIs(answer.shows(NESTED, FLR, "1.i"), False)
        answer.name = "d"
        self.assertIs(answer.shows(NESTED, FLR, "1.i"), True)
        answer = leads(NESTED, FLR, "1")
        answer.one, answer.other = answer.other, answer.one
        self.assertIs(answer.shows(NESTED, FLR, "1"), True)
        answer.one = answer.other
        self.assertIs(answer.shows(NESTED, FLR, "1"), False)
        answer = leads(NESTED, FLR, "1.x")
        answer.parts += 1
        self.assertIs(answer.shows(NESTED, FLR, "1.x"), False)
        answer.parts -= 1
        self.assertIs(answer.shows(NESTED, FLR, "1.x"), True)

    def test_an_outline_changed_in_place(self):
        outline = copy.deepcopy(NESTED)
        answer = leads(outline, FLR, "1.i")
        outline[3] = ("d", 2, 4, [])
        self.assertIs(answer.shows(outline, FLR, "1.i"), False)
        self.assertIs(answer.shows(outline, FLR, "1.iv"), True)


def bends(outline):
    """The outline with an item more, fewer, or with one part bent."""
    made = [outline + [("q", 0, 0, [])], outline + [("q", 1, 0, [])], [("q", 0, 0, [])] + outline]
    made += [outline + outline, outline + [("q", 0, 0, [])] * 9, []]
    for at, (name, depth, begin, points) in enumerate(outline):
        made += [outline[:at] + outline[at + 1:], outline[:at], outline[:at] + outline[at:at + 1] + outline[at:]]
        items = [(to, depth, begin, points) for to in ("q", name + "a", name + "aa", "", "A", name.upper(), name + " ")]
        items += [(name, to, begin, points) for to in (-1, 0, 1, 2, 3, 4, depth + 1, depth - 1, 10 ** 5000)]
        begins = (-2, -1, 0, 1, 2, 3000, 3001, begin + 1, begin - 1, -(10 ** 5000))
        items += [(name, depth, to, points) for to in begins]
        lists = ([], ["q"], ["no"], points + ["q"], points[1:], points[::-1], ["A"])
        items += [(name, depth, begin, to) for to in lists]
        made += [outline[:at] + [item] + outline[at + 1:] for item in items]
    return made


class Reading(unittest.TestCase):
    def check_all(self, outline, manner):
        text = said_text(outline, manner)
        self.assertIs(Read(outline).shows(text, manner), True)
        self.assertIs(read(text, manner).shows(text, manner), True)
        for other in bends(outline):
            self.assertIs(Read(other).shows(text, manner), other == outline)
        for row in FAR:
            self.assertIs(Broken(row).shows(text, manner), False)

    def test_small_outlines(self):
        for count in range(4):
            for outline in outlines_of(count, (0, 2, -1)):
                self.check_all(outline, FLR)

    def test_mixed_outlines(self):
        for turn, outline in enumerate(mixed_outlines(60)):
            self.check_all(outline, MANNERS[turn // 10 % len(MANNERS)])

    def test_read_of_other_texts(self):
        text = said_text(NESTED, FLR)
        for other in (text[:-1], text + "\n", "\n" + text, text + " ", " " + text, text + text, "", text.upper()):
            self.assertIs(Read(NESTED).shows(other, FLR), False)
        self.assertIs(Read(NESTED).shows(text, FIGURES), False)
        self.assertIs(Read([]).shows("", FLR), True)
        self.assertIs(Read([]).shows("\n", FLR), False)

    def test_read_of_lists_that_are_no_outline(self):
        for outline, text in (
            ([("a", 1, 0, [])], "  a a\n"),
            ([("a", 0, 0, []), ("a", 0, 0, [])], "1 a\n2 a\n"),
            ([("a", 0, 0, ["b", "c", "d"])], "1 a >b >c >d\n"),
            ([("a", 0, 3001, [])], "3001 a =\n"),
            ([("abc", 0, 0, [])], "1 abc\n"),
            ([("A", 0, 0, [])], "1 A\n"),
            ([("a", 0, -2, [])], "- a\n"),
            ([(name, 0, 0, []) for name in NAMES], "".join(f"{at + 1} {NAMES[at]}\n" for at in range(10))),
        ):
            self.assertIs(Read(outline).shows(text, FLR), False)

    def test_broken(self):
        text = said_text(NESTED, FLR)
        rows = text.split("\n")[:-1]
        for at in range(len(rows)):
            wrong = "\n".join(rows[:at] + ["?" + rows[at]] + rows[at + 1:]) + "\n"
            for row in FAR + [6, 7]:
                self.assertIs(Broken(row).shows(wrong, FLR), row == at)
            self.assertIs(Read(NESTED).shows(wrong, FLR), False)
            self.assertIs(Read(NESTED[:at]).shows(wrong, FLR), False)
        for row in FAR + [6, 7]:
            self.assertIs(Broken(row).shows(text, FLR), False)
            self.assertIs(Broken(row).shows(text[:-1], FLR), row == 5)
            self.assertIs(Broken(row).shows(text + "\n", FLR), row == 6)
            self.assertIs(Broken(row).shows("", FLR), False)

    def test_never_both(self):
        text = said_text(NESTED, FLR)
        for at in range(len(text)):
            wrong = text[:at] + text[at + 1:]
            told = read(wrong, FLR)
            self.assertIs(told.shows(wrong, FLR), True)
            name, fields = said_read(wrong, FLR)
            truths = [Broken(row).shows(wrong, FLR) for row in range(-1, 12)]
            self.assertEqual(truths, [name == "Broken" and fields["row"] == row for row in range(-1, 12)])

    def test_by_the_fields_as_they_stand(self):
        text = said_text(NESTED, FLR)
        answer = read(text, FLR)
        answer.outline[0][3].append("q")
        self.assertIs(answer.shows(text, FLR), False)
        answer.outline[0][3].pop()
        self.assertIs(answer.shows(text, FLR), True)
        gone = answer.outline.pop()
        self.assertIs(answer.shows(text, FLR), False)
        answer.outline.append(gone)
        self.assertIs(answer.shows(text, FLR), True)
        answer.outline = []
        self.assertIs(answer.shows(text, FLR), False)
        self.assertIs(answer.shows("", FLR), True)
        answer = read(text[:-1], FLR)
        answer.row -= 1
        self.assertIs(answer.shows(text[:-1], FLR), False)
        answer.row += 1
        self.assertIs(answer.shows(text[:-1], FLR), True)


if __name__ == "__main__":
    unittest.main()
