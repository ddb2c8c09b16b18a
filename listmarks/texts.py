"""Outlines written as texts, and texts read back."""

from listmarks.answers import Broken, Read
from listmarks.checks import check_manner, check_outline, check_text
from listmarks.rows import outline_read, text_of

MOST_SIGNS = 320


def written(outline, manner):
    """Tell the text that is written of the outline."""
    check_outline(outline)
    check_manner(manner)
    return text_of(outline, manner)


def read(text, manner):
    """Tell the outline that the text is written of, or the first row that is wrong."""
    check_text(text, MOST_SIGNS)
    check_manner(manner)
    outline, broken = outline_read(text, manner)
    if broken is None:
        return Read(outline)
    return Broken(broken)
