"""Numbers written in figures, letters or Roman figures, and read back."""

from listmarks.checks import LETTERS, check_kind, check_number, is_number
from listmarks.errors import BadText

MOST_NUMBER = 3099
FIGURES = "0123456789"
ROMAN = (
    ("m", 1000), ("cm", 900), ("d", 500), ("cd", 400),
    ("c", 100), ("xc", 90), ("l", 50), ("xl", 40),
    ("x", 10), ("ix", 9), ("v", 5), ("iv", 4), ("i", 1),
)
# No numeral is longer than the Roman one of 2888.
MOST_SIGNS = 14


def numeral(number, kind):
    """Tell the text that writes the number by the kind."""
    check_number(number, 1, MOST_NUMBER)
    check_kind(kind)
    if kind == "figures":
        return str(number)
    if kind == "letters":
        return in_letters(number)
    return in_roman(number)


def in_letters(number):
    """Tell the letters that write the number."""
    text = ""
    left = number
    while left > 0:
        # No letter stands for 0: each one goes from 1 to 26.
        left, at = divmod(left - 1, len(LETTERS))
        text = LETTERS[at] + text
    return text


def in_roman(number):
    """Tell the Roman figures that write the number."""
    text = ""
    left = number
    for signs, worth in ROMAN:
        while left >= worth:
            text += signs
            left -= worth
    return text


def number_of(text, kind):
    """Tell the number that the text writes by the kind, None if it writes none."""
    if not isinstance(text, str):
        raise BadText("no text")
    check_kind(kind)
    if len(text) > MOST_SIGNS:
        return None
    # The guess is right only for a text that is written so: writing it anew shows whether it is.
    number = guess(text, kind)
    if is_number(number, 1, MOST_NUMBER) and numeral(number, kind) == text:
        return number
    return None


def guess(text, kind):
    """Tell the one number that the text can write by the kind, if it writes any."""
    if kind == "figures":
        return guess_places(text, FIGURES, 0)
    if kind == "letters":
        return guess_places(text, LETTERS, 1)
    return guess_roman(text)


def guess_places(text, signs, lowest):
    """Guess from signs that each stand for their place among all, counted from the lowest."""
    number = 0
    for sign in text:
        number = number * len(signs) + signs.find(sign) + lowest
    return number


def guess_roman(text):
    """Guess from Roman figures, the greatest taken off first."""
    number = 0
    left = text
    for signs, worth in ROMAN:
        while left.startswith(signs):
            number += worth
            left = left[len(signs):]
    return number
