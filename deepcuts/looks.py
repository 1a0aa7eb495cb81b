"""What LOOKs tell of rooms.

A span is a pair (least, greatest) of rooms that are numbers, its greatest one None if there is no greatest one.
"""

from deepcuts.errors import Unfit
from deepcuts.rooms import at_most, least_room


def shared(spans):
    """The span of the rooms that are in all of these spans; it may be that its greatest one is less than its least."""
    return max([low for low, _ in spans], default=0), least_room([high for _, high in spans])


def span_at(looks, name):
    """The span of the rooms for which the LOOKs at this NAME are right."""
    ends = [(many, None) if stays else (0, many - 1) for own, many, stays in looks if own == name]
    return shared(ends)


def checked(span):
    """The span, if there is a room in it."""
    if not at_most(span[0], span[1]):
        raise Unfit()
    return span


def left_span(left, looks):
    """The span of the one room of the NAMEs that are left."""
    spans = [span_at(looks, name) for name in left]
    for name in [look[0] for look in looks]:
        low, high = checked(span_at(looks, name))
        # One that is not left and has a room at all has as much as those that are left.
        if name not in left and low > 0:
            spans.append((0, high))
    return checked(shared(spans))


def room_spans(left, looks, name):
    """The ascending spans, one or two, of the rooms that the NAME can have, if just those left are left."""
    own = left_span(left, looks)
    if name in left:
        return [own]
    low, high = span_at(looks, name)
    spans = [(0, 0)] if low == 0 else []
    least = max(low, own[0], 1)
    if at_most(least, high):
        spans.append((least, high))
    return spans


def clipped(spans, most):
    """The spans of those of their rooms that are at most most, a number."""
    ends = [(low, most if high is None else min(high, most)) for low, high in spans]
    return [(low, high) for low, high in ends if low <= high]


def parting(spans):
    """The least number such that about half of the rooms of these spans are less; None if there is at most one room."""
    less = sum([high - low + 1 for low, high in spans]) // 2
    if less == 0:
        return None
    for low, high in spans:
        if less <= high - low + 1:
            # So many rooms of this span, and all of those ahead of it.
            return low + less
        less = less - (high - low + 1)
    return None
