"""Parts of lines that texts of Boards and requests have in common."""

from deepcuts.errors import BadText
from deepcuts.labels import is_name
from deepcuts.pipelines import Pipeline


def name_in(text):
    """The NAME that this text is."""
    if not is_name(text):
        raise BadText()
    return text


def split_at(text, sign):
    """The parts of a text ahead of the first such sign, and behind it."""
    first, found, rest = text.partition(sign)
    if found == "":
        raise BadText()
    return first, rest


def end_in(text):
    """The Pipeline at one end of a frame; None for *."""
    return None if text == "*" else Pipeline.of(text)


def frame_in(text):
    """The triple (name, low, high) of a text NAME from LOW .. HIGH."""
    name, ends = split_at(text, " from ")
    low, high = split_at(ends, " .. ")
    return name_in(name), end_in(low), end_in(high)
