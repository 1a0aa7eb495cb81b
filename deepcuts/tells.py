"""What one PATH tells of another one, what LOOKs tell of rooms, and Forests that tell all of a Pipeline."""

from deepcuts.errors import Unfit, tupled
from deepcuts.forests import Forest
from deepcuts.forms import is_form, pipeline_of
from deepcuts.labels import Labels
from deepcuts.looks import clipped, parting, room_spans
from deepcuts.pipelines import Pipeline
from deepcuts.rooms import formed_over
from deepcuts.shapes import nested
from deepcuts.steps import Step


def times_above(path):
    """How often each label stands above the last node."""
    above = path[:-1]
    return {label: above.count(label) for label in above}


def more_often(path, other):
    """The labels unlike the last one of other that stand above it more often than above that of path."""
    times, wanted = times_above(path), times_above(other)
    return [label for label in wanted if label != other[-1] and wanted[label] > times.get(label, 0)]


def path_tells(path, other):
    """Whether for ALL Pipelines that let the last node of path stay that of other stays, too."""
    times, wanted = times_above(path), times_above(other)
    last = other[-1]
    if path[-1] != last or any([label != last and label not in times for label in wanted]):
        return False
    extra = sum([wanted[label] - times[label] for label in more_often(path, other)])
    return wanted.get(last, 0) + extra <= times.get(last, 0)


def path_breaks(path, other):
    """A Pipeline that lets the last node of path stay and not that of other; None if there is none."""
    if path_tells(path, other):
        return None
    times = times_above(path)
    if path[-1] != other[-1]:
        return Pipeline((Step("unwrap", Labels(path[-1:], True)),))
    strange = [label for label in more_often(path, other) if label not in times]
    if strange:
        return Pipeline((Step("drop", Labels(strange)),))
    # All those that stand above the last node of other too often get just the room that they fill in path.
    counted = more_often(path, other) + [path[-1]]
    room = sum([times.get(label, 0) for label in counted])
    return Pipeline((Step("unwrap", Labels(counted, True)), Step("cut", room + 1)))


def tellers(paths):
    """The numbers of the PATHs that no other one tells; of some that tell one another the first one counts."""
    return tuple([number for number in range(len(paths)) if not is_told(paths, number)])


def is_told(paths, number):
    """Whether another PATH tells the one with this number, an earlier one if they tell one another."""
    path = paths[number]
    for at, other in enumerate(paths):
        if at != number and path_tells(other, path) and (at < number or not path_tells(path, other)):
            return True
    return False


def rooms_told(left, looks):
    """The triples (name, least, greatest) of the rooms that the NAMEs can have, if just those left are left."""
    spans = {name: room_spans(left, looks, name) for name in list(left) + [look[0] for look in looks]}
    return tuple([(name, spans[name][0][0], spans[name][-1][1]) for name in sorted(spans)])


def next_look(left, looks, name, most):
    """The number of a LOOK at the NAME that parts its rooms up to most as evenly as can be; None if there is none."""
    return parting(clipped(room_spans(left, looks, name), most))


def looks_needed(left, looks, name, most):
    """How many LOOKs are enough to know which of its rooms up to most the NAME has."""
    many = sum([high - low + 1 for low, high in clipped(room_spans(left, looks, name), most)])
    # Each LOOK leaves the half, or half a room more.
    return 0 if many == 0 else (many - 1).bit_length()


def telling_rows(names, most):
    """The rows (label, depth, above, many) of a telling forest: so many nodes with the label above, and no others.

    For each NAME a path of nodes with it alone, beneath which the others stand: the least room that is greater than
    most shows, too.
    """
    rows = []
    for above in names:
        for many in range(most + 2):
            rows.append((above, many + 1, above, many))
            if many <= most:
                rows = rows + [(name, many + 2, above, many + 1) for name in names if name != above]
    return rows


def telling_forest(names, most):
    """A Forest that tells Pipelines apart by what is seen of it, if no room that is a number is more than most."""
    rows = telling_rows(names, most)
    return Forest(nested([row[0] for row in rows], [row[1] for row in rows]))


def seen_by(pipeline, forest):
    """The ascending tuple of the pairs (place, NAME) of the nodes that stay, with their last names."""
    return tuple([(place, pipeline.final(forest[place])) for place in pipeline.places(forest)])


def read_off(names, most, seen):
    """A Pipeline by which just this is seen of the telling forest of these names."""
    found = dict(tupled(seen))
    lasts = {}
    rooms = {name: 0 for name in names}
    for place, (label, _, above, many) in enumerate(telling_rows(names, most)):
        if place in found:
            rooms[above] = max(rooms[above], many)
            lasts[label] = found[place]
    form = formed_over([(name, lasts.get(name), None if rooms[name] > most else rooms[name]) for name in names])
    if not is_form(form):
        raise Unfit()
    pipeline = pipeline_of(form)
    # What is read off need not be what was seen: then nothing shows just this.
    if seen_by(pipeline, telling_forest(names, most)) != tupled(seen):
        raise Unfit()
    return pipeline
