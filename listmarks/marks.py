"""The marks of an outline's items, who bears a mark, and the pointings."""

from listmarks.checks import DEPTH, NAME, POINTS, check_manner, check_outline
from listmarks.numerals import numeral
from listmarks.outlines import numbers, parents


def marks(outline, manner):
    """Tell each item's mark."""
    check_outline(outline)
    check_manner(manner)
    told = []
    trails = []
    for item, parent, number in zip(outline, parents(outline), numbers(outline)):
        trail = [] if parent == -1 else list(trails[parent])
        if number is None:
            told.append("")
        else:
            trail.append(numeral(number, manner[item[DEPTH]]))
            told.append(".".join(trail))
        # Kept for left out items, too: those above them stand in the marks of those below.
        trails.append(trail)
    return told


def mark_pairs(outline, manner):
    """Tell pairs of each item's name and its mark."""
    found = marks(outline, manner)
    return [(item[NAME], mark) for item, mark in zip(outline, found)]


def bearers(outline, manner, text):
    """Tell the names of the items whose mark the text is."""
    # A left out item's mark is the text of no sign, but that one leads to nobody.
    if text == "":
        return []
    return [name for name, mark in mark_pairs(outline, manner) if mark == text]


def parts_led(outline, manner, text):
    """Tell with how many of its parts the text begins as some mark does, at the most."""
    parts = text.split(".")
    counted = [mark for mark in marks(outline, manner) if mark != ""]
    return max([like_ahead(parts, mark.split(".")) for mark in counted], default=0)


def like_ahead(parts, others):
    """Tell how many parts are like the others up to the first that isn't."""
    many = 0
    for part, against in zip(parts, others):
        if part != against:
            break
        many += 1
    return many


def pointed(outline, manner):
    """Tell for each item the marks of those it points at, None for a name that no item has."""
    mark_of = dict(mark_pairs(outline, manner))
    return [[mark_of.get(name) for name in item[POINTS]] for item in outline]


def stale(outline):
    """Tell the pointings to names that no item has, as pairs of who points and the name."""
    check_outline(outline)
    names = [item[NAME] for item in outline]
    return [(item[NAME], name) for item in outline for name in item[POINTS] if name not in names]
