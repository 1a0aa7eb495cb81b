"""Single PATHs: whether the last node stays, why it goes, what must be taken out, and how many of them there are."""

from deepcuts.counts import lots_of, many_more
from deepcuts.errors import NoNumber, Unlike
from deepcuts.rooms import are_enough


def rooms_of(pipeline, labels):
    """The rooms of these labels, in order."""
    return [pipeline.room(label) for label in labels]


def stays(pipeline, path):
    """Whether the last node stays."""
    return pipeline.final(path[-1]) is not None and are_enough(rooms_of(pipeline, path[:-1]))


def stays_by_runs(pipeline, runs):
    """Whether the last node of the PATH stays that is told by runs, pairs (NAME, number)."""
    last, many = runs[-1]
    if pipeline.final(last) is None:
        return False
    above = [(pipeline.room(name), number) for name, number in runs[:-1]] + [(pipeline.room(last), many - 1)]
    total = 0
    # The last node of each run, by rooms, asks for the most.
    for room, number in sorted([(room, number) for room, number in above if room is not None]):
        total = total + number
        if total > room:
            return False
    return True


def taken_by(pipeline, path):
    """The number of the step in which the last node goes; None if it stays."""
    names = list(path)
    for number, step in enumerate(pipeline.steps):
        if takes_last(step, names):
            return number
        if step.kind == "unwrap":
            names = [name for name in names if name not in step.what]
        elif step.kind == "rename":
            called = dict(step.what)
            names = [called.get(name, name) for name in names]
    return None


def takes_last(step, names):
    """Whether the last node of a path of these NAMEs goes in this step."""
    if step.kind == "cut":
        return len(names) > step.what
    if step.kind == "unwrap":
        return names[-1] in step.what
    return step.kind == "drop" and any([name in step.what for name in names])


def why_goes(pipeline, path):
    """A reason that the last node goes; None if it stays."""
    last = len(path) - 1
    if pipeline.final(path[last]) is None:
        return (last,)
    rooms = rooms_of(pipeline, path[:last])
    places = sorted([place for place in range(last) if rooms[place] is not None], key=lambda place: rooms[place])
    for many in range(1, len(places) + 1):
        if rooms[places[many - 1]] < many:
            return tuple(sorted(places[:many]))
    return None


def is_places(thing, end):
    """Whether thing is an ascending tuple of one or more places, all of them less than end."""
    if not isinstance(thing, tuple) or len(thing) == 0:
        return False
    if not all([isinstance(part, int) and not isinstance(part, bool) and 0 <= part < end for part in thing]):
        return False
    return all([before < after for before, after in zip(thing, thing[1:])])


def is_reason(pipeline, path, thing):
    """Whether thing is a reason that the last node goes."""
    last = len(path) - 1
    if not is_places(thing, last + 1):
        return False
    if last in thing:
        return len(thing) == 1 and pipeline.final(path[last]) is None
    rooms = rooms_of(pipeline, [path[place] for place in thing])
    return all([room is not None and room < len(thing) for room in rooms])


def dearest(rooms, prices):
    """The places of nodes above the last one that can stand there together, with the greatest sum of prices."""
    kept = []
    # Sets of nodes that can stand there are those of a matroid: to take the dearest one that can join is best.
    for place in sorted(range(len(rooms)), key=lambda at: prices[at], reverse=True):
        if are_enough([rooms[at] for at in kept + [place]]):
            kept.append(place)
    return kept


def fewest_out(pipeline, path):
    """How many nodes above must be taken out at least so that the last node stays; None if its label is not left."""
    out = taken_out(pipeline, path)
    return None if out is None else len(out)


def cheapest_out(pipeline, path, prices):
    """The least sum of prices of nodes that are taken out so that the last node stays; None likewise."""
    out = taken_out(pipeline, path, prices)
    return None if out is None else sum([prices[place] for place in out])


def taken_out(pipeline, path, prices=None):
    """The set of the places of such nodes, as few as can be without prices, as cheap as can be with them."""
    above = path[:-1]
    if prices is None:
        prices = [1] * len(above)
    if len(prices) != len(above):
        raise Unlike()
    if pipeline.final(path[-1]) is None:
        return None
    kept = dearest(rooms_of(pipeline, above), prices)
    return tuple([place for place in range(len(above)) if place not in kept])


def last_ones(pipeline, names):
    """Those of these names with which a last node can stay."""
    return [name for name in names if pipeline.final(name) is not None]


def how_many(pipeline, names, size):
    """How many PATHs of these names there are with so many nodes whose last node stays."""
    if size == 0:
        return 0
    return many_more(lots_of(rooms_of(pipeline, names), []), size - 1) * len(last_ones(pipeline, names))


def path_at(pipeline, names, size, number):
    """The one of these PATHs that has so many lesser ones among them."""
    if not 0 <= number < how_many(pipeline, names, size):
        raise NoNumber(number)
    lasts = last_ones(pipeline, names)
    above, last = divmod(number, len(lasts))
    rooms = rooms_of(pipeline, names)
    picked = []
    for beneath in reversed(range(size - 1)):
        at, above = next_at(rooms, [rooms[one] for one in picked], beneath, above)
        picked.append(at)
    return tuple([names[at] for at in picked]) + (lasts[last],)


def next_at(rooms, held, beneath, number):
    """The pair (at, rest): the next NAME above, where so many more nodes come beneath, and the number that is left.

    The number is that of a row of NAMEs with these rooms, among all rows that can come behind those that are held.
    """
    at = 0
    many = many_more(lots_of(rooms, held + [rooms[at]]), beneath)
    while number >= many:
        number = number - many
        at = at + 1
        many = many_more(lots_of(rooms, held + [rooms[at]]), beneath)
    return at, number


def number_of(pipeline, names, path):
    """How many of those PATHs with as many nodes as this one are less than it."""
    rooms = rooms_of(pipeline, names)
    lasts = last_ones(pipeline, names)
    total = 0
    held = []
    for place, label in enumerate(path[:-1]):
        for name, room in zip(names, rooms):
            if name < label:
                total = total + many_more(lots_of(rooms, held + [room]), len(path) - place - 2) * len(lasts)
        if label not in names:
            return total
        held.append(pipeline.room(label))
    if not are_enough(held):
        return total
    return total + len([name for name in lasts if name < path[-1]])


def longest(pipeline, names):
    """The greatest number of nodes of a PATH whose last node stays; 0 without such ones, None if it has no end."""
    if not last_ones(pipeline, names):
        return 0
    rooms = rooms_of(pipeline, names)
    return None if None in rooms else max(rooms) + 1
