"""Counting PATHs by the rooms of the labels above the last node.

Lots are triples (room, many, held), ascending by room: so many NAMEs have this room, and so many nodes with labels of
this room stand on the PATH already.
"""

from math import comb


def lots_of(rooms, held):
    """The lots of NAMEs with these rooms, where nodes with the held rooms, each one of theirs, stand already."""
    ends = sorted(set([room for room in rooms if room is not None])) + ([None] if None in rooms else [])
    return [(room, rooms.count(room), held.count(room)) for room in ends]


def powers(many, most):
    """The powers of a number, from that with the exponent 0 to that with the greatest one."""
    found = [1]
    for _ in range(most):
        found.append(found[-1] * many)
    return found


def many_more(lots, size):
    """How many rows of so many nodes can come behind those that stand already, so that all rooms are enough."""
    # ways[k] is how many rows there are of k nodes, all of them of the lots gone through so far.
    ways = [1]
    stand = 0
    for room, many, held in lots:
        stand = stand + held
        most = size if room is None else min(size, room - stand)
        new = powers(many, most)
        ways = [mixed(ways, new, total) for total in range(most + 1)]
    return ways[size] if size < len(ways) else 0


def mixed(ways, new, total):
    """How many rows there are of so many nodes in all, some told by ways, and the others, among them, by new."""
    known = range(min(total + 1, len(ways)))
    return sum([ways[k] * comb(total, k) * new[total - k] for k in known])
