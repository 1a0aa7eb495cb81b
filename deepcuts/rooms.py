"""Rooms, and the FORMs that tell the room and the last name of each label.

A room that is None is for any number of nodes: it counts as more than each number. The rows that FORMs are made of
are triples (label, last, room), ascending, and behind them one with a label that stands for all others.
"""

from deepcuts.labels import LETTERS, Labels
from deepcuts.steps import Step

NOTHING = ((), (False, 0))
UNCHANGED = ((), (True, None))


def at_most(room, other):
    """Whether a room is at most the other one."""
    return other is None or (room is not None and room <= other)


def lesser(room, other):
    """The lesser one of two rooms."""
    return room if at_most(room, other) else other


def greater(room, other):
    """The greater one of two rooms."""
    return other if at_most(room, other) else room


def least_room(rooms):
    """The least one of these rooms, None if there are none."""
    return min([room for room in rooms if room is not None], default=None)


def are_enough(rooms, first=1):
    """Whether the rooms, in ascending order, are at least first, first + 1 and so on."""
    numbers = sorted([room for room in rooms if room is not None])
    return all([room >= first + at for at, room in enumerate(numbers)])


def name_at(number):
    """The NAME with this number of a, b, .., z, aa, ab, .., counted from 0."""
    many = len(LETTERS)
    name = LETTERS[number % many]
    while number >= many:
        number = number // many - 1
        name = LETTERS[number % many] + name
    return name


def labels_for(names):
    """These NAMEs, ascending, and behind them a label that is none of them and stands for all others."""
    number = 0
    while name_at(number) in names:
        number = number + 1
    return sorted(set(names)) + [name_at(number)]


def told_in_steps(steps):
    """The NAMEs that steps tell, some maybe twice: the steps treat all others alike."""
    told = []
    for step in steps:
        if step.kind == "rename":
            for first, second in step.what:
                told.append(first)
                told.append(second)
        elif step.kind != "cut":
            for name in step.what.names:
                told.append(name)
    return told


def told_in_form(form):
    """The NAMEs that a FORM tells, as labels or last names, some maybe twice: all others are like the rest."""
    lasts = [row[1] for row in form[0] if row[1] is not None]
    return [row[0] for row in form[0]] + lasts


def labels_of(form, other):
    """The labels that two FORMs tell, and one that stands for all others."""
    return labels_for(told_in_form(form) + told_in_form(other))


def traced(steps, label):
    """The pair (last, room) of a label, if some label is left."""
    name = label
    room = None
    for step in steps:
        if step.kind == "cut":
            room = lesser(room, step.what - 1)
        elif step.kind == "rename":
            name = dict(step.what).get(name, name)
        elif name in step.what:
            return None, (0 if step.kind == "drop" else room)
    return name, room


def like_rest(rest, label):
    """The pair (last, room) of a label that is like the rest."""
    left, room = rest
    return (label if left else None), room


def formed(rows):
    """The FORM with these rows; all rooms are 0 if no label is left, whatever the rows tell."""
    if all([row[1] is None for row in rows]):
        return NOTHING
    _, last, room = rows[-1]
    rest = (last is not None, room)
    return tuple([row for row in rows[:-1] if row[1:] != like_rest(rest, row[0])]), rest


def formed_over(rows):
    """The FORM with these rows of names, ascending, that drops all other labels."""
    return formed(rows + [(labels_for([row[0] for row in rows])[-1], None, 0)])


def form_of(steps):
    """The FORM of these steps one after another."""
    return formed([(label,) + traced(steps, label) for label in labels_for(told_in_steps(steps))])


def treated(form, label):
    """The pair (last, room) of a label."""
    for name, last, room in form[0]:
        if name == label:
            return last, room
    return like_rest(form[1], label)


def treated_all(form, labels):
    """The pairs (last, room) of these labels, in order."""
    told = {row[0]: row[1:] for row in form[0]}
    return [told[label] if label in told else like_rest(form[1], label) for label in labels]


def renames_some(form):
    """Whether some label that is left has another last name."""
    return any([last is not None and last != name for name, last, _ in form[0]])


def left_room(form):
    """The room of the labels that are left, 0 if there are none."""
    for _, last, room in form[0]:
        if last is not None:
            return room
    return form[1][1]


def depth_of(form):
    """How deep what comes out can be, None without end."""
    if form == NOTHING:
        return 0
    own = left_room(form)
    return None if own is None else own + 1


def left_labels(form):
    """The Labels that are left."""
    rest = form[1][0]
    return Labels([name for name, last, _ in form[0] if (last is not None) != rest], rest)


def roomy_labels(form, least):
    """The Labels that have at least this room, a number."""
    rest = at_most(least, form[1][1])
    return Labels([name for name, _, room in form[0] if at_most(least, room) != rest], rest)


def gone_labels(form, room):
    """The Labels that are not left and have this room."""
    rest = form[1] == (False, room)
    return Labels([name for name, last, own in form[0] if (last is None and own == room) != rest], rest)


def gone_rooms(form):
    """The rooms of the labels that are not left, but for 0 and None, from the greatest one down."""
    rooms = [room for _, last, room in form[0] if last is None and room is not None]
    left, room = form[1]
    if not left and room is not None:
        rooms.append(room)
    return [own for own in sorted(set(rooms))[::-1] if own != 0]


def plain_steps(form):
    """The steps of the plain Pipeline with this FORM."""
    if form == NOTHING:
        return (Step("drop", Labels((), True)),)
    steps = [Step("drop", gone_labels(form, 0)), Step("unwrap", gone_labels(form, None))]
    # Those that have nothing to do are left out.
    steps = [step for step in steps if step.what != Labels()]
    limits = [room + 1 for room in gone_rooms(form)]
    for limit in limits:
        steps.append(Step("cut", limit))
        steps.append(Step("unwrap", gone_labels(form, limit - 1)))
    own = left_room(form)
    if own is not None and own + 1 not in limits[-1:]:
        steps.append(Step("cut", own + 1))
    pairs = [(name, last) for name, last, _ in form[0] if last is not None and last != name]
    if pairs:
        steps.append(Step("rename", pairs))
    return tuple(steps)
