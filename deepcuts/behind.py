"""What stands behind a Pipeline, and what must be put behind or ahead of one, for ALL Forests."""

from math import lcm

from deepcuts.algebra import many_times, one_behind
from deepcuts.forms import pipeline_of
from deepcuts.rooms import (NOTHING, UNCHANGED, at_most, formed, labels_of, left_room, lesser, renames_some,
                            told_in_form, treated)


def coming_out(form, whole):
    """For each name that can come out of a FORM what the whole one does to the labels that come out so.

    None if no FORM can stand behind the one so that both are the whole one, which leaves some label.
    """
    done = {}
    for label in labels_of(form, whole):
        name, room = treated(form, label)
        wanted = treated(whole, label)
        if name is None:
            if wanted != (None, room):
                return None
        elif not at_most(wanted[1], room) or done.setdefault(name, wanted) != wanted:
            return None
    return done


def rest_of(p, whole):
    """The greatest plain Pipeline x with p >> x alike to whole, which leaves what can not come out of p; or None."""
    form, wanted = p.form, whole.form
    if wanted == NOTHING:
        return rest_for_nothing(form)
    done = coming_out(form, wanted)
    if done is None:
        return None
    limit = left_room(form)
    own = left_room(wanted)
    rows = []
    for label in labels_of(form, wanted):
        last, room = done.get(label, (label, own))
        # What p lets by at most need not be held back again.
        rows.append((label, last, None if room == limit else room))
    return pipeline_of(formed(rows))


def rest_for_nothing(form):
    """The greatest plain Pipeline behind which nothing is left of what can come out of this FORM."""
    labels = labels_of(form, form)
    come = [treated(form, label)[0] for label in labels]
    return pipeline_of(formed([(label, None if label in come else label, None) for label in labels]))


def front_of(p, whole):
    """A plain Pipeline x with x >> p alike to whole; None if there is none."""
    form, wanted = p.form, whole.form
    if wanted == NOTHING:
        return pipeline_of(NOTHING)
    if form == NOTHING or not at_most(left_room(wanted), left_room(form)):
        return None
    labels = labels_of(form, wanted)
    givers = {}
    for label in labels:
        givers.setdefault(treated(form, label)[0], label)
    rows = []
    for label in labels:
        last, room = treated(wanted, label)
        if last is not None and last not in givers:
            return None
        rows.append((label, None if last is None else givers[last], room))
    return pipeline_of(formed(rows))


def either_order(p, other):
    """Whether p >> other is alike to other >> p."""
    return one_behind(p.form, other.form) == one_behind(other.form, p.form)


def steady(p):
    """Whether p >> p is alike to p."""
    return idle_behind(p, p)


def idle_behind(p, other):
    """Whether p >> other is alike to p."""
    return one_behind(p.form, other.form) == p.form


def renames(p):
    """Whether some label that is left has another last name."""
    return renames_some(p.form)


def first_ones(pipelines):
    """The tuple of those Pipelines that are alike to no earlier one."""
    found = {}
    for pipeline in pipelines:
        found.setdefault(pipeline.form, pipeline)
    return tuple([found[form] for form in found])


def least_ones(labels, forms):
    """For each label the least one of those that go together with it by the last names of the FORMs."""
    least = {label: label for label in labels}
    for form in forms:
        firsts = {}
        for label in labels:
            last = treated(form, label)[0]
            if last is not None:
                unite(least, firsts.setdefault(last, label), label)
    return least


def unite(least, one, label):
    """Lets two labels go together, with all that go together with one of them."""
    low, high = sorted([least[one], least[label]])
    for name in list(least):
        if least[name] == high:
            least[name] = low


def end_of_lot(lot, forms):
    """The pair (left, room) of the labels of a lot in the common end of two FORMs; None if there can be none."""
    told = [(form, treated(form, label)) for form in forms for label in lot]
    gone = [room for _, (last, room) in told if last is None]
    if not gone:
        return True, lesser(left_room(forms[0]), left_room(forms[1]))
    limits = [left_room(form) for form, (last, _) in told if last is not None]
    if any([room != gone[0] for room in gone]) or not all([at_most(gone[0], limit) for limit in limits]):
        return None
    return False, gone[0]


def common_end(p, other):
    """The greatest plain Pipeline, leaving some label, that both can be gone on with to; None if there is none."""
    forms = (p.form, other.form)
    labels = labels_of(p.form, other.form)
    least = least_ones(labels, forms)
    rows = []
    for label in labels:
        end = end_of_lot([name for name in labels if least[name] == least[label]], forms)
        if end is None:
            return None
        left, room = end
        rows.append((label, least[label] if left else None, room))
    form = formed(rows)
    return None if form == NOTHING else pipeline_of(form)


def ring_of(form, label):
    """The labels whose names follow upon one another from this one on and back to it; () if they do not come back."""
    ring = [label]
    last = treated(form, label)[0]
    while last is not None and last not in ring:
        ring.append(last)
        last = treated(form, last)[0]
    return tuple(ring) if last == label else ()


def rings_of(form):
    """The rings of the labels that a FORM tells."""
    found = [ring_of(form, label) for label in sorted(set(told_in_form(form)))]
    return [ring for ring in found if ring]


def settles(p):
    """The pair (first, period): from first times on, p so many times and period times more are alike."""
    period = 1
    for ring in rings_of(p.form):
        period = lcm(period, len(ring))
    first = 0
    few, many = UNCHANGED, many_times(p.form, period)
    while few != many:
        few, many = one_behind(few, p.form), one_behind(many, p.form)
        first = first + 1
    return first, period


def meeting(times, step, size, offset):
    """The least number from times on, by steps, with this remainder by size; None if there is none."""
    for _ in range(size):
        if times % size == offset:
            return times
        times = times + step
    return None


def how_often(p, other):
    """The least number n with p * n alike to other; None if there is none."""
    first, _ = settles(p)
    made = UNCHANGED
    for times in range(first):
        if made == other.form:
            return times
        made = one_behind(made, p.form)
    # From first on each ring turns by itself: its remainder is all that it asks for.
    times = first
    step = 1
    for ring in rings_of(p.form):
        last = other.final(ring[0])
        if last not in ring:
            return None
        times = meeting(times, step, len(ring), ring.index(last))
        if times is None:
            return None
        step = lcm(step, len(ring))
    return times if many_times(p.form, times) == other.form else None
