"""What several test files use: wrong values, outlines, and the document's words as plain code."""

import itertools
import random

FIGURES = ["figures"] * 4
MANNERS = [
    FIGURES,
    ["letters"] * 4,
    ["roman"] * 4,
    ["figures", "letters", "roman", "figures"],
    ["roman", "figures", "letters", "roman"],
    ["letters", "roman", "figures", "letters"],
]
NAMES = ["a", "b", "c", "d", "e", "f", "g", "h", "zz", "j"]


class Hostile:
    """An object that fails at whatever is asked of it."""

    def fail(self, *rest):
        raise AssertionError("an object handed in was asked something")

    __eq__ = __ne__ = __lt__ = __le__ = __gt__ = __ge__ = fail
    __hash__ = __len__ = __iter__ = __getitem__ = __contains__ = fail
    __bool__ = __index__ = __int__ = __str__ = __repr__ = fail


class LikeAll:
    """An object that is equal to everything."""

    def __eq__(self, other):
        return True

    def __hash__(self):
        return 0


def wrong_kinds(*right):
    """Values of all kinds but the right ones: texts, numbers, lists, tuples, by their Python classes."""
    endless = []
    endless.append(endless)
    values = [
        None, True, False, b"", b"a", b"figures", bytearray(b"a"), {}, {0: "figures"}, {"a": 1}, set(), {"a"},
        frozenset(), range(4), object(), Hostile(), LikeAll(), len, int, str, list, wrong_kinds, iter([]), 1j,
        NotImplemented, ..., ValueError("a"),
        "", "a", "figures", "1", 0, 1, 2, -1, 10 ** 5000, -(10 ** 5000), [], [1], ["a"], [[]], [None], endless,
        (), (1,), ("a",), ("a", 0, 0, []), ("figures",) * 4, [Hostile()], [LikeAll()], (Hostile(),),
    ]
    return [value for value in values if not isinstance(value, right) or isinstance(value, bool)]


def told_class(function, *handed):
    """The very class of what the call raises."""
    try:
        function(*handed)
    except Exception as error:
        return type(error)
    return None


def shapes(count):
    """All rows of depths that many items may have."""
    rows = [[]]
    for _ in range(count):
        rows = [row + [depth] for row in rows for depth in range(min(3, row[-1] + 1 if row else 0) + 1)]
    return rows


def outlines_of(count, begins):
    """All outlines of that many items that have one of the begins each."""
    for row in shapes(count):
        for chosen in itertools.product(begins, repeat=count):
            yield [(NAMES[at], row[at], chosen[at], []) for at in range(count)]


def mixed_outlines(many):
    """Outlines of none to nine items with all sorts of begins and pointings, the same ones each time."""
    dice = random.Random(20261118)
    for turn in range(many):
        outline = []
        names = dice.sample(NAMES + ["k", "q", "xy"], turn % 10)
        for name in names:
            deepest = min(3, outline[-1][1] + 1) if outline else 0
            begin = dice.choice([0, 0, 0, 0, -1, -1, 1, 3, 26, 702, 2888, 3000])
            points = [dice.choice(names + ["no", "o"]) for _ in range(dice.randint(0, 2))]
            outline.append((name, dice.randint(max(0, deepest - 2), deepest), begin, points))
        yield outline


def said_parent(outline, place):
    """Promise 4, word by word."""
    return max([at for at in range(place) if outline[at][1] < outline[place][1]], default=-1)


def said_number(outline, place):
    """Promise 4, word by word."""
    begin = outline[place][2]
    if begin != 0:
        return None if begin == -1 else begin
    parent = said_parent(outline, place)
    ahead = [at for at in range(place) if said_parent(outline, at) == parent and outline[at][2] != -1]
    return said_number(outline, ahead[-1]) + 1 if ahead else 1


def said_letters(number):
    """Promise 2, word by word: all of one letter, then all of two, then all of three."""
    for many in (1, 2, 3):
        if number <= 26 ** many:
            rest = number - 1
            return "".join(chr(97 + rest // 26 ** at % 26) for at in reversed(range(many)))
        number -= 26 ** many
    raise AssertionError("too great")


def said_roman(number):
    """Roman figures by the four places of the decimal figures."""
    ones = ["", "i", "ii", "iii", "iv", "v", "vi", "vii", "viii", "ix"]
    tens = ["", "x", "xx", "xxx", "xl", "l", "lx", "lxx", "lxxx", "xc"]
    hundreds = ["", "c", "cc", "ccc", "cd", "d", "dc", "dcc", "dccc", "cm"]
    return "m" * (number // 1000) + hundreds[number // 100 % 10] + tens[number // 10 % 10] + ones[number % 10]


SAID = {"figures": str, "letters": said_letters, "roman": said_roman}


def said_mark(outline, manner, place):
    """Promise 5, word by word."""
    if outline[place][2] == -1:
        return ""
    parts = []
    at = place
    while at != -1:
        if outline[at][2] != -1:
            parts.insert(0, SAID[manner[outline[at][1]]](said_number(outline, at)))
        at = said_parent(outline, at)
    return ".".join(parts)
