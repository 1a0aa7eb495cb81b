"""What can be done with FORMs: one within another, both, either, one behind another, many times."""

from deepcuts.rooms import (UNCHANGED, at_most, formed, greater, labels_for, labels_of, lesser, told_in_form, treated,
                            treated_all)


def side_by_side(form, other):
    """The rows (label, pair, pair) of the labels that two FORMs tell, each with its (last, room) in both."""
    labels = labels_of(form, other)
    return list(zip(labels, treated_all(form, labels), treated_all(other, labels)))


def is_within(form, other):
    """Whether what form keeps is kept by the other one, for ALL forests."""
    for _, (last, room), (kept, limit) in side_by_side(form, other):
        if (last is not None and kept is None) or not at_most(room, limit):
            return False
    return True


def both_forms(form, other):
    """The greatest FORM without renames within both."""
    rows = []
    for label, (last, room), (kept, limit) in side_by_side(form, other):
        left = last is not None and kept is not None
        rows.append((label, label if left else None, lesser(room, limit)))
    return formed(rows)


def either_form(form, other):
    """The least FORM without renames around both."""
    rows = []
    own = 0
    for label, (last, room), (kept, limit) in side_by_side(form, other):
        left = last is not None or kept is not None
        rows.append((label, label if left else None, greater(room, limit)))
        if left:
            own = greater(own, rows[-1][2])
    # All labels left have one room, and no other room, 0 apart, is less.
    return formed([(label, last, room if last is None and room == 0 else greater(room, own))
                   for label, last, room in rows])


def one_behind(form, other):
    """The FORM of what goes through form and then through the other one."""
    rows = []
    labels = labels_of(form, other)
    ahead = treated_all(form, labels)
    behind = treated_all(other, [name for name, _ in ahead])
    for label, (name, room), (last, limit) in zip(labels, ahead, behind):
        rows.append((label, None, room) if name is None else (label, last, lesser(room, limit)))
    return formed(rows)


def many_times(form, times):
    """The FORM so many times one behind another, by as many doublings as the number has binary digits."""
    made = UNCHANGED
    while times > 0:
        if times % 2 == 1:
            made = one_behind(made, form)
        form = one_behind(form, form)
        times = times // 2
    return made


def over_form(form, names):
    """The greatest FORM without renames within this one that drops all labels but these names."""
    rows = []
    for label in labels_for(told_in_form(form) + list(names)):
        last, room = treated(form, label) if label in names else (None, 0)
        rows.append((label, None if last is None else label, room))
    return formed(rows)
