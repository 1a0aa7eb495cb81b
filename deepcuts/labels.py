"""NAMEs, and Labels: sets of finitely many NAMEs, or of all but finitely many."""

from deepcuts.errors import BadText

LETTERS = "abcdefghijklmnopqrstuvwxyz"
MOST_LETTERS = 8


def is_name(thing):
    """Whether thing is a NAME."""
    if not isinstance(thing, str) or not 1 <= len(thing) <= MOST_LETTERS:
        return False
    return all([letter in LETTERS for letter in thing])


def told_by(a, b):
    """The NAMEs that a or b tells, some maybe twice: a and b treat all others alike."""
    return a.names + b.names


class Labels:
    """The NAMEs that are told, or, with rest, all NAMEs but these."""

    def __init__(self, names=(), rest=False):
        self._names = tuple(sorted(set(names)))
        self._rest = rest

    @staticmethod
    def of(text):
        """The Labels with this text."""
        if text == "-":
            return Labels()
        if text == "*":
            return Labels((), True)
        words = text.removeprefix("* - ").split(" ")
        if not all([is_name(word) for word in words]) or words != sorted(set(words)):
            raise BadText()
        return Labels(words, text.startswith("* - "))

    @property
    def names(self):
        """The set of the NAMEs that are told."""
        return self._names

    @property
    def rest(self):
        """Whether all NAMEs but the told ones are meant."""
        return self._rest

    @property
    def text(self):
        """The text from which `of` makes equal Labels."""
        words = " ".join(self._names)
        if not self._rest:
            return words or "-"
        return f"* - {words}" if words else "*"

    @property
    def other(self):
        """The Labels of all NAMEs that are not in these."""
        return Labels(self._names, not self._rest)

    def __contains__(self, x):
        return (x in self._names) != self._rest

    def __or__(self, other):
        rest = self._rest or other.rest
        told = [name for name in told_by(self, other) if (name in self or name in other) != rest]
        return Labels(told, rest)

    def __and__(self, other):
        rest = self._rest and other.rest
        told = [name for name in told_by(self, other) if (name in self and name in other) != rest]
        return Labels(told, rest)

    def __sub__(self, other):
        return self & other.other

    def within(self, b):
        """Whether each of these NAMEs is in b."""
        return self - b == Labels()

    def __eq__(self, other):
        return isinstance(other, Labels) and self._names == other._names and self._rest == other._rest
