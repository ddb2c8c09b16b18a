"""What is told of a mark or of a text, and whether it is so."""

from listmarks.checks import is_number, is_outline
from listmarks.marks import bearers, parts_led
from listmarks.outlines import copied
from listmarks.rows import outline_read, text_of


class Answer:
    """What is told of a mark or of a text."""


class Found(Answer):
    """One item bears the mark."""

    def __init__(self, name):
        self.name = name

    def shows(self, outline, manner, text):
        """Tell whether the text is the mark of the item of this name, and of no other."""
        return bearers(outline, manner, text) == [self.name]


class Twice(Answer):
    """At least two items bear the mark."""

    def __init__(self, one, other):
        self.one = one
        self.other = other

    def shows(self, outline, manner, text):
        """Tell whether the text is the mark of both, which are unlike."""
        names = bearers(outline, manner, text)
        return self.one != self.other and self.one in names and self.other in names


class Nobody(Answer):
    """No item bears the mark; so many of its parts lead, at the most."""

    def __init__(self, parts):
        self.parts = parts

    def shows(self, outline, manner, text):
        """Tell whether the text is nobody's mark and so many of its parts lead."""
        if bearers(outline, manner, text) != []:
            return False
        led = parts_led(outline, manner, text)
        return is_number(self.parts, led, led)


class Read(Answer):
    """The outline that a text is written of."""

    def __init__(self, outline):
        self.outline = copied(outline)

    def shows(self, text, manner):
        """Tell whether the text is written of this outline."""
        return is_outline(self.outline) and text_of(self.outline, manner) == text


class Broken(Answer):
    """The first row of a text that is wrong."""

    def __init__(self, row):
        self.row = row

    def shows(self, text, manner):
        """Tell whether this row is the first one that is wrong."""
        broken = outline_read(text, manner)[1]
        return broken is not None and is_number(self.row, broken, broken)
