"""What several test files use: wrong values, outlines, and the document's words as plain code."""

import copy
import itertools
import random
import re

FIGURES = ["figures"] * 4
MANNERS = [
    FIGURES,
    ["letters"] * 4,
    ["roman"] * 4,
    ["figures", "letters", "roman", "figures"],
    ["roman", "figures", "letters", "roman"],
    ["letters", "roman", "figures", "letters"],
]
NAMES = ["a", "b", "c", "d", "e", "f", "g", "h", "zz", "j"]


class Hostile:
    """An object that fails at whatever is asked of it."""

    def fail(self, *rest):
        raise AssertionError("an object handed in was asked something")

    __eq__ = __ne__ = __lt__ = __le__ = __gt__ = __ge__ = fail
    __hash__ = __len__ = __iter__ = __getitem__ = __contains__ = fail
    __bool__ = __index__ = __int__ = __str__ = __repr__ = fail


class LikeAll:
    """An object that is equal to everything."""

    def __eq__(self, other):
        return True

    def __hash__(self):
        return 0


BAD_OUTLINES = [
    None, True, 1, "", "a", b"a", (), {}, object(), Hostile(), LikeAll(), [1], [None], [()], [("a", 0, 0)],
    [("a", 0, 0, [], [])], [["a", 0, 0, []]], [("a", 1, 0, [])], [("A", 0, 0, [])], [("a", 0, -2, [])],
    [("a", 0, 3001, [])], [("a", 0, 0, ())], [("a", 0, 0, ["a", "a", "a"])], [("a", 0, 0, [])] * 2,
    [("a", 0, True, [])], [("a", False, 0, [])], [("abcdefghij"[at], 0, 0, []) for at in range(10)], [Hostile()],
]
BAD_MANNERS = [
    [], ["figures"], ["figures"] * 3, ["figures"] * 5, ("figures",) * 4, "figures", ["figures"] * 3 + ["Roman"],
    ["figures", "letters", "roman", ""], ["figures", "letters", "roman", None], [None] * 4, [1] * 4, [True] * 4,
    [b"figures"] * 4, [["figures"]] * 4, [("figures",)] * 4, [Hostile()] * 4, [LikeAll()] * 4, [["figures"] * 4],
    {0: "figures", 1: "figures", 2: "figures", 3: "figures"}, ["figures", "figures", "figures", "figures "],
    ["a"] * 4, ["", "", "", ""],
]


def wrong_kinds(*right):
    """Values of all kinds but the right ones: texts, numbers, lists, tuples, by their Python classes."""
    endless = []
    endless.append(endless)
    values = [
        None, True, False, b"", b"a", b"figures", bytearray(b"a"), {}, {0: "figures"}, {"a": 1}, set(), {"a"},
        frozenset(), range(4), object(), Hostile(), LikeAll(), len, int, str, list, wrong_kinds, iter([]), 1j,
        NotImplemented, ..., ValueError("a"),
        "", "a", "figures", "1", 0, 1, 2, -1, 10 ** 5000, -(10 ** 5000), [], [1], ["a"], [[]], [None], endless,
        (), (1,), ("a",), ("a", 0, 0, []), ("figures",) * 4, [Hostile()], [LikeAll()], (Hostile(),),
    ]
    return [value for value in values if not isinstance(value, right) or isinstance(value, bool)]


def told_class(function, *handed):
    """The very class of what the call raises."""
    try:
        function(*handed)
    except Exception as error:
        return type(error)
    return None


def shapes(count):
    """All rows of depths that many items may have."""
    rows = [[]]
    for _ in range(count):
        rows = [row + [depth] for row in rows for depth in range(min(3, row[-1] + 1 if row else 0) + 1)]
    return rows


def outlines_of(count, begins):
    """All outlines of that many items that have one of the begins each."""
    for row in shapes(count):
        for chosen in itertools.product(begins, repeat=count):
            yield [(NAMES[at], row[at], chosen[at], []) for at in range(count)]


def mixed_outlines(many):
    """Outlines of none to nine items with all sorts of begins and pointings, the same ones each time."""
    dice = random.Random(20261118)
    for turn in range(many):
        outline = []
        names = dice.sample(NAMES + ["k", "q", "xy"], turn % 10)
        for name in names:
            deepest = min(3, outline[-1][1] + 1) if outline else 0
            begin = dice.choice([0, 0, 0, 0, -1, -1, 1, 3, 26, 702, 2888, 3000])
            points = [dice.choice(names + ["no", "o"]) for _ in range(dice.randint(0, 2))]
            outline.append((name, dice.randint(max(0, deepest - 2), deepest), begin, points))
        yield outline


def said_parent(outline, place):
    """Promise 4, word by word."""
    return max([at for at in range(place) if outline[at][1] < outline[place][1]], default=-1)


def said_number(outline, place):
    """Promise 4, word by word."""
    begin = outline[place][2]
    if begin != 0:
        return None if begin == -1 else begin
    parent = said_parent(outline, place)
    ahead = [at for at in range(place) if said_parent(outline, at) == parent and outline[at][2] != -1]
    return said_number(outline, ahead[-1]) + 1 if ahead else 1


def said_letters(number):
    """Promise 2, word by word: all of one letter, then all of two, then all of three."""
    for many in (1, 2, 3):
        if number <= 26 ** many:
            rest = number - 1
            return "".join(chr(97 + rest // 26 ** at % 26) for at in reversed(range(many)))
        number -= 26 ** many
    raise AssertionError("too great")


def said_roman(number):
    """Roman figures by the four places of the decimal figures."""
    ones = ["", "i", "ii", "iii", "iv", "v", "vi", "vii", "viii", "ix"]
    tens = ["", "x", "xx", "xxx", "xl", "l", "lx", "lxx", "lxxx", "xc"]
    hundreds = ["", "c", "cc", "ccc", "cd", "d", "dc", "dcc", "dccc", "cm"]
    return "m" * (number // 1000) + hundreds[number // 100 % 10] + tens[number // 10 % 10] + ones[number % 10]


SAID = {"figures": str, "letters": said_letters, "roman": said_roman}


def said_mark(outline, manner, place):
    """Promise 5, word by word."""
    if outline[place][2] == -1:
        return ""
    parts = []
    at = place
    while at != -1:
        if outline[at][2] != -1:
            parts.insert(0, SAID[manner[outline[at][1]]](said_number(outline, at)))
        at = said_parent(outline, at)
    return ".".join(parts)


def said_marks(outline, manner):
    """Promise 5 over a whole outline."""
    return [said_mark(outline, manner, place) for place in range(len(outline))]


def said_leads(outline, marks, text):
    """Promise 6, word by word, by the marks: the answer's class by its name, and its fields."""
    bearing = [outline[place][0] for place, mark in enumerate(marks) if mark == text and text]
    if len(bearing) > 1:
        return "Twice", {"one": bearing[0], "other": bearing[1]}
    if bearing:
        return "Found", {"name": bearing[0]}
    # Whoever stands above an item has a mark of its own: only whole marks must be tried.
    parts = text.split(".")
    led = [len(mark.split(".")) for mark in marks if mark and parts[:mark.count(".") + 1] == mark.split(".")]
    return "Nobody", {"parts": max(led, default=0)}


def said_outline(outline):
    """Promise 3 of a list of tuples whose parts are of the right kinds."""
    if len(outline) > 9 or len({item[0] for item in outline}) < len(outline):
        return False
    if [depth for _, depth, _, _ in outline][:1] not in ([], [0]):
        return False
    for name, depth, begin, points in outline:
        if not re.fullmatch("[a-z]{1,2}", name) or depth not in range(4) or begin not in range(-1, 3001):
            return False
        if len(points) > 2 or not all(re.fullmatch("[a-z]{1,2}", to) for to in points):
            return False
    return all(behind[1] - ahead[1] <= 1 for ahead, behind in zip(outline, outline[1:]))


def said_row(outline, manner, place):
    """Promise 9, word by word, without the row's end."""
    name, depth, begin, points = outline[place]
    row = "  " * depth
    row += "-" if begin == -1 else SAID[manner[depth]](said_number(outline, place))
    row += " " + name
    if begin > 0:
        row += " ="
    for to in points:
        row += " >" + to
    return row


def said_text(outline, manner):
    """Promise 9 over a whole outline."""
    return "".join(said_row(outline, manner, place) + "\n" for place in range(len(outline)))


ROW = re.compile("((?:  )*)(-|[a-z0-9]+) ([a-z]{1,2})( =)?((?: >[a-z]{1,2})*)")
WORTH = {kind: {SAID[kind](number): number for number in range(1, 3100)} for kind in SAID}


def said_read(text, manner):
    """Promise 10, word by word: the answer's class by its name, and its fields."""
    rows = re.findall("[^\n]*\n|[^\n]+", text)
    outline = []
    for at, row in enumerate(rows):
        found = ROW.fullmatch(row[:-1]) if row.endswith("\n") else None
        if found is None or len(found[1]) > 6:
            return "Broken", {"row": at}
        depth = len(found[1]) // 2
        worth = WORTH[manner[depth]].get(found[2])
        begin = (-1 if found[2] == "-" else 0) if not found[4] else worth if worth is not None else 9999
        outline.append((found[3], depth, begin, re.findall("[a-z]+", found[5])))
        if not said_outline(outline) or said_number(outline, at) != worth:
            return "Broken", {"row": at}
    return "Read", {"outline": outline}


def said_branch(outline, place):
    """The places of an item and of all below it, by their parents."""
    places = [place]
    for at in range(place + 1, len(outline)):
        if said_parent(outline, at) in places:
            places.append(at)
    return places


def said_changes(before, after, manner):
    """What promise 8 tells of an outline before and after a deed."""
    old = {item[0]: mark for item, mark in zip(before, said_marks(before, manner))}
    new = {item[0]: mark for item, mark in zip(after, said_marks(after, manner))}
    return [(name, old.get(name), new.get(name)) for name in sorted(old | new) if old.get(name) != new.get(name)]


def said_deed(outline, deed, *handed):
    """Promise 8, word by word: the list of items that comes of a deed with good arguments."""
    if deed == "put":
        place, item = handed
        return outline[:place] + [item] + outline[place:]
    place = [item[0] for item in outline].index(handed[0])
    places = said_branch(outline, place)
    name, depth, begin, points = outline[place]
    others = [item for at, item in enumerate(outline) if at not in places]
    if deed == "take":
        return others
    if deed == "move":
        return others[:handed[1]] + [outline[at] for at in places] + others[handed[1]:]
    if deed == "shift":
        return [(a, b + (handed[1] if at in places else 0), c, d) for at, (a, b, c, d) in enumerate(outline)]
    changed = (name, depth, handed[1], points) if deed == "begin" else (name, depth, begin, list(handed[1]))
    return outline[:place] + [changed] + outline[place + 1:]


def shown(answer):
    """An answer's class by its name, and its fields."""
    return type(answer).__name__, vars(answer)


def as_put(desk, outline):
    """Put the items of an outline in, one behind the other."""
    for place, item in enumerate(copy.deepcopy(outline)):
        desk.put(place, item)
    return desk
