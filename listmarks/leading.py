"""Which item a mark leads to."""

from listmarks.answers import Found, Nobody, Twice
from listmarks.checks import check_manner, check_outline, check_text
from listmarks.marks import bearers, parts_led

MOST_SIGNS = 60


def leads(outline, manner, text):
    """Tell the one item whose mark the text is, the first two of several, or how far it leads."""
    check_outline(outline)
    check_manner(manner)
    check_text(text, MOST_SIGNS)
    names = bearers(outline, manner, text)
    if names == []:
        return Nobody(parts_led(outline, manner, text))
    if len(names) == 1:
        return Found(names[0])
    return Twice(names[0], names[1])
