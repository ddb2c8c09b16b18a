"""Outlines: the parent and the own number of each item, and copies of them."""

from listmarks.checks import BEGIN, COUNTS_ON, DEPTH, LEFT_OUT, check_outline


def parents(outline):
    """Tell the place of each item's parent, -1 for none."""
    check_outline(outline)
    return [parent_of(outline, place) for place in range(len(outline))]


def parent_of(outline, place):
    """Tell the place of the parent of the item at the place, -1 for none."""
    for ahead in reversed(range(place)):
        if outline[ahead][DEPTH] < outline[place][DEPTH]:
            return ahead
    return -1


def numbers(outline):
    """Tell each item's own number, None for those left out."""
    check_outline(outline)
    told = []
    # Those without a parent count among themselves, too: by -1.
    last_below = {}
    for item, parent in zip(outline, parents(outline)):
        number = own_number(item[BEGIN], last_below.get(parent, 0))
        if number is not None:
            last_below[parent] = number
        told.append(number)
    return told


def own_number(begin, last):
    """Tell the own number of an item, by its begin and the last number ahead of it, 0 for none."""
    if begin == LEFT_OUT:
        return None
    if begin == COUNTS_ON:
        return last + 1
    return begin


def copied(value):
    """Tell the same outline, item or part of one, made anew with all lists in it."""
    if isinstance(value, list):
        return [copied(part) for part in value]
    if isinstance(value, tuple):
        return tuple([copied(part) for part in value])
    return value
