"""Marks: what the memory of a keeper says of a program and a thing."""

from letforget.errors import InvalidMark


class Mark:
    """One of four words, from the weakest to the strongest."""

    WORDS = ("none", "own", "read", "write")

    def __init__(self, word):
        if word not in Mark.WORDS:
            raise InvalidMark(word)
        self.word = word
        self.strength = Mark.WORDS.index(word)

    def __eq__(self, other):
        if not isinstance(other, Mark):
            return NotImplemented
        return self.strength == other.strength

    def __lt__(self, other):
        if not isinstance(other, Mark):
            return NotImplemented
        return self.strength < other.strength

    def __le__(self, other):
        if not isinstance(other, Mark):
            return NotImplemented
        return self.strength <= other.strength

    def __or__(self, other):
        if not isinstance(other, Mark):
            return NotImplemented
        if self.strength < other.strength:
            return other
        return self


def strongest(*marks):
    """Return the strongest of the marks, `none` if there are none."""
    found = Mark("none")
    for mark in marks:
        found = found | mark
    return found
