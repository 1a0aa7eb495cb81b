"""FORMs: pairs (entries, rest) that tell all that a Pipeline does."""

from deepcuts.errors import tupled
from deepcuts.labels import is_name
from deepcuts.pipelines import Pipeline
from deepcuts.rooms import NOTHING, at_most, greater, like_rest, plain_steps


def is_room(thing):
    """Whether thing is a number from 0, or None."""
    return thing is None or (isinstance(thing, int) and not isinstance(thing, bool) and thing >= 0)


def is_entry(thing):
    """Whether thing is a triple (name, last, room) of a NAME, a NAME or None, and a room."""
    if not isinstance(thing, tuple) or len(thing) != 3:
        return False
    name, last, room = thing
    return is_name(name) and (last is None or is_name(last)) and is_room(room)


def has_parts(thing):
    """Whether thing is a pair of a tuple of entries and a pair (left, room)."""
    if not isinstance(thing, tuple) or len(thing) != 2:
        return False
    entries, rest = thing
    if not isinstance(entries, tuple) or not all([is_entry(entry) for entry in entries]):
        return False
    return isinstance(rest, tuple) and len(rest) == 2 and isinstance(rest[0], bool) and is_room(rest[1])


def rooms_fit(left, gone):
    """Whether the labels left can have these rooms, one or more, and those not left these other ones."""
    own = left[0]
    if not all([room == own for room in left]):
        return False
    return all([room == 0 or at_most(greater(own, 1), room) for room in gone])


def is_form(thing):
    """Whether thing is the FORM of some Pipeline."""
    if not has_parts(thing):
        return False
    entries, rest = thing
    names = [entry[0] for entry in entries]
    if names != sorted(set(names)) or any([entry[1:] == like_rest(rest, entry[0]) for entry in entries]):
        return False
    left = [room for _, last, room in entries if last is not None]
    gone = [room for _, last, room in entries if last is None]
    if rest[0]:
        left.append(rest[1])
    else:
        gone.append(rest[1])
    return rooms_fit(left, gone) if left else thing == NOTHING


def pipeline_of(form):
    """The plain Pipeline with this FORM."""
    return Pipeline(plain_steps(tupled(form)))
