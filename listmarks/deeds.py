"""A desk: an outline under way, the deeds on it, and what they change."""

from listmarks.checks import (
    BEGIN, DEPTH, LEFT_OUT, MOST_BEGIN, MOST_DEPTH, NAME, POINTS,
    check_manner, check_number, is_item, is_outline, is_points,
)
from listmarks.errors import BadDeed, BadItem, NoItem
from listmarks.marks import mark_pairs
from listmarks.outlines import copied


class Desk:
    """A manner and an outline, without items at first."""

    def __init__(self, manner):
        check_manner(manner)
        self.manner = list(manner)
        self.outline = []

    def listed(self):
        """Tell the items."""
        return copied(self.outline)

    def marks(self):
        """Tell pairs of each item's name and its mark."""
        return mark_pairs(self.outline, self.manner)

    def put(self, place, item):
        """Put the item in at the place."""
        if not is_item(item):
            raise BadItem("no item")
        check_number(place, 0, len(self.outline))
        return self.become(put_among(self.outline, place, [copied(item)]))

    def take(self, name):
        """Take the item out, with all below it."""
        ahead, branch, behind = parted(self.outline, name)
        return self.become(ahead + behind)

    def move(self, name, place):
        """Move the item, with all below it, to the place among the others."""
        ahead, branch, behind = parted(self.outline, name)
        others = ahead + behind
        check_number(place, 0, len(others))
        return self.become(put_among(others, place, branch))

    def shift(self, name, by):
        """Shift the item, and all below it, so much deeper."""
        ahead, branch, behind = parted(self.outline, name)
        check_number(by, -MOST_DEPTH, MOST_DEPTH)
        shifted = [with_part(item, DEPTH, item[DEPTH] + by) for item in branch]
        return self.become(ahead + shifted + behind)

    def begin(self, name, how):
        """Set how the item begins."""
        place = place_of(self.outline, name)
        check_number(how, LEFT_OUT, MOST_BEGIN)
        return self.become(with_part_at(self.outline, place, BEGIN, how))

    def point(self, name, names):
        """Set the names that the item points at."""
        place = place_of(self.outline, name)
        if not is_points(names):
            raise BadItem("no list of at most two names")
        return self.become(with_part_at(self.outline, place, POINTS, list(names)))

    def become(self, outline):
        """Take the outline for the desk's own, and tell what changes; nothing does where it is none."""
        if not is_outline(outline):
            raise BadDeed("no outline would come of it")
        before = self.marks()
        self.outline = outline
        return changes(before, self.marks())


def place_of(outline, name):
    """Tell the place of the item of this name."""
    # Only a text is compared: an object may call itself like anything.
    if isinstance(name, str):
        for place, item in enumerate(outline):
            if item[NAME] == name:
                return place
    raise NoItem("no item has this name")


def parted(outline, name):
    """Tell three lists: the items ahead of the one of this name, it with all below it, and those behind."""
    place = place_of(outline, name)
    end = place + 1
    while end < len(outline) and outline[end][DEPTH] > outline[place][DEPTH]:
        end += 1
    return outline[:place], outline[place:end], outline[end:]


def put_among(outline, place, branch):
    """Tell the items with those of the branch put in at the place."""
    return outline[:place] + branch + outline[place:]


def with_part(item, at, part):
    """Tell the item with another part at this place."""
    return item[:at] + (part,) + item[at + 1:]


def with_part_at(outline, place, at, part):
    """Tell the outline with another part in the item at the place."""
    return outline[:place] + [with_part(outline[place], at, part)] + outline[place + 1:]


def changes(before, after):
    """Tell triples of a name, its mark before and its mark after, where these are unlike, in order."""
    old = dict(before)
    new = dict(after)
    triples = [(name, old.get(name), new.get(name)) for name in sorted(set([*old, *new]))]
    return [triple for triple in triples if triple[1] != triple[2]]
