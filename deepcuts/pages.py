"""Forests with a node put in, taken out or called otherwise."""

from deepcuts.errors import NoPlace
from deepcuts.forests import Forest
from deepcuts.shapes import flat, nested


def check_place(forest, place):
    """Raises NoPlace if the Forest has no node at this place."""
    if not 0 <= place < len(forest):
        raise NoPlace(place)


def with_node(forest, place, label):
    """The Forest with a new node behind all that stands directly beneath this one; place None: behind all TREEs."""
    if place is None:
        return forest + Forest(((label, ()),))
    check_place(forest, place)
    names, depths = flat(forest.trees)
    end = place + 1 + len(forest.below(place))
    return Forest(nested(names[:end] + (label,) + names[end:], depths[:end] + (depths[place] + 1,) + depths[end:]))


def without_tree(forest, place):
    """The Forest without this node and all beneath."""
    check_place(forest, place)
    gone = (place,) + forest.below(place)
    return forest.only([at for at in range(len(forest)) if at not in gone])


def without_node(forest, place):
    """The Forest without this node; what stands beneath takes its place."""
    check_place(forest, place)
    return forest.only([at for at in range(len(forest)) if at != place])


def with_name(forest, place, label):
    """The Forest in which this node has this NAME."""
    check_place(forest, place)
    names, depths = flat(forest.trees)
    return Forest(nested(names[:place] + (label,) + names[place + 1:], depths))
