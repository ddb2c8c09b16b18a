"""The rows of a text: one for each item of an outline, written and read."""

from listmarks.checks import COUNTS_ON, LEFT_OUT, MOST_DEPTH, is_outline
from listmarks.numerals import number_of, numeral
from listmarks.outlines import numbers

STEP = "  "
END = "\n"
LEFT_OUT_SIGN = "-"
ANEW_SIGN = "="
POINT_SIGN = ">"


def rows_of(outline, manner):
    """Tell the row of each item, without its end."""
    return [row_of(item, number, manner) for item, number in zip(outline, numbers(outline))]


def row_of(item, number, manner):
    """Tell the row of the item that has this own number, without its end."""
    name, depth, begin, points = item
    words = [LEFT_OUT_SIGN if number is None else numeral(number, manner[depth]), name]
    if begin > COUNTS_ON:
        words.append(ANEW_SIGN)
    words.extend([POINT_SIGN + at for at in points])
    return STEP * depth + " ".join(words)


def text_of(outline, manner):
    """Tell the text that is written of the outline."""
    return "".join([row + END for row in rows_of(outline, manner)])


def outline_read(text, manner):
    """Tell the outline of all rows ahead of the first wrong one, and the place of that one, None for none."""
    *rows, unended = text.split(END)
    outline = []
    for row in rows:
        # The guess is right only for a row that is written so: writing it anew shows whether it is.
        longer = [*outline, guess_item(row, manner)]
        if not is_outline(longer) or rows_of(longer, manner)[-1] != row:
            return outline, len(outline)
        outline = longer
    # What stands behind the last row's end is a row only if it has a sign.
    if unended != "":
        return outline, len(outline)
    return outline, None


def guess_item(row, manner):
    """Tell the one item that the row can be written of, if it is written of any; None if it has no words for it."""
    bare = row.lstrip(" ")
    depth = (len(row) - len(bare)) // len(STEP)
    words = bare.split(" ")
    if depth > MOST_DEPTH or len(words) < 2:
        return None
    points = [word[len(POINT_SIGN):] for word in words[2:] if word != ANEW_SIGN]
    return words[1], depth, guess_begin(words, manner[depth]), points


def guess_begin(words, kind):
    """Guess an item's begin from the words of its row."""
    if ANEW_SIGN in words:
        return number_of(words[0], kind)
    if words[0] == LEFT_OUT_SIGN:
        return LEFT_OUT
    return COUNTS_ON
