"""What kinds, manners, items and outlines are; the other files refuse by this."""

from listmarks.errors import BadManner, BadNumber, BadOutline, BadText

LETTERS = "abcdefghijklmnopqrstuvwxyz"
KINDS = ("figures", "letters", "roman")

# The places of an item's parts.
NAME = 0
DEPTH = 1
BEGIN = 2
POINTS = 3

COUNTS_ON = 0
LEFT_OUT = -1

MOST_SIGNS_OF_NAME = 2
MOST_DEPTH = 3
MOST_BEGIN = 3000
MOST_POINTS = 2
MOST_ITEMS = 9


def is_number(value, low, high):
    """Tell whether the value is a whole number from low to high."""
    # True and False are integers to Python, but no numbers here.
    if isinstance(value, bool) or not isinstance(value, int):
        return False
    return low <= value <= high


def is_kind(value):
    """Tell whether the value is a kind of numeral."""
    return isinstance(value, str) and value in KINDS


def is_manner(value):
    """Tell whether the value is a list of one kind for each depth."""
    if not isinstance(value, list) or len(value) != MOST_DEPTH + 1:
        return False
    return all([is_kind(kind) for kind in value])


def is_name(value):
    """Tell whether the value is the name of an item."""
    if not isinstance(value, str) or not 1 <= len(value) <= MOST_SIGNS_OF_NAME:
        return False
    return all([sign in LETTERS for sign in value])


def is_points(value):
    """Tell whether the value is a list of names that an item may point at."""
    if not isinstance(value, list) or len(value) > MOST_POINTS:
        return False
    return all([is_name(name) for name in value])


def is_item(value):
    """Tell whether the value is an item."""
    if not isinstance(value, tuple) or len(value) != 4:
        return False
    name, depth, begin, points = value
    if not is_name(name) or not is_number(depth, 0, MOST_DEPTH):
        return False
    return is_number(begin, LEFT_OUT, MOST_BEGIN) and is_points(points)


def is_stepwise(depths):
    """Tell whether no depth is more than one deeper than the one ahead of it."""
    # Ahead of the first one stands -1, so that only 0 may come first.
    ahead = -1
    for depth in depths:
        if depth > ahead + 1:
            return False
        ahead = depth
    return True


def is_outline(value):
    """Tell whether the value is an outline."""
    if not isinstance(value, list) or len(value) > MOST_ITEMS:
        return False
    # Names and depths are compared only once it is sure that they are such.
    if not all([is_item(item) for item in value]):
        return False
    names = [item[NAME] for item in value]
    return len(set(names)) == len(names) and is_stepwise([item[DEPTH] for item in value])


def check_kind(value):
    """Refuse what is no kind of numeral."""
    if not is_kind(value):
        raise BadManner("no kind of numeral")


def check_manner(value):
    """Refuse what is no manner."""
    if not is_manner(value):
        raise BadManner("no list of four kinds")


def check_outline(value):
    """Refuse what is no outline."""
    if not is_outline(value):
        raise BadOutline("no outline")


def check_number(value, low, high):
    """Refuse what is no whole number from low to high."""
    if not is_number(value, low, high):
        raise BadNumber("no number within the bounds")


def check_text(value, most):
    """Refuse what is no text of at most that many signs."""
    if not isinstance(value, str) or len(value) > most:
        raise BadText("no text within the bounds")
