"""The refusals of the program, one class for each kind."""


class MarkError(ValueError):
    """Any refusal of this program."""


class BadOutline(MarkError):
    """What was handed in is no outline."""


class BadManner(MarkError):
    """What was handed in is no manner, or no kind."""


class BadNumber(MarkError):
    """What was handed in is no number within the bounds."""


class BadItem(MarkError):
    """What was handed in is no item, or no pointings of one."""


class BadText(MarkError):
    """What was handed in is no text, or too long a one."""


class NoItem(MarkError):
    """No item has the name that was handed in."""


class BadDeed(MarkError):
    """No outline would come of the deed."""
