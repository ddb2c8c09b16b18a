"""The marks of an outline's items, and its pointings."""

from listmarks.checks import DEPTH, NAME, POINTS, check_manner, check_outline
from listmarks.numerals import numeral
from listmarks.outlines import numbers, parents


def marks(outline, manner):
    """Tell each item's mark."""
    check_outline(outline)
    check_manner(manner)
    told = []
    trails = []
    for item, parent, number in zip(outline, parents(outline), numbers(outline)):
        trail = [] if parent == -1 else list(trails[parent])
        if number is None:
            told.append("")
        else:
            trail.append(numeral(number, manner[item[DEPTH]]))
            told.append(".".join(trail))
        # Kept for left out items, too: those above them stand in the marks of those below.
        trails.append(trail)
    return told


def pointed(outline, manner):
    """Tell for each item the marks of those it points at, None for a name that no item has."""
    found = marks(outline, manner)
    mark_of = {item[NAME]: mark for item, mark in zip(outline, found)}
    return [[mark_of.get(name) for name in item[POINTS]] for item in outline]


def stale(outline):
    """Tell the pointings to names that no item has, as pairs of who points and the name."""
    check_outline(outline)
    names = [item[NAME] for item in outline]
    return [(item[NAME], name) for item in outline for name in item[POINTS] if name not in names]
