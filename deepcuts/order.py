"""The order of Pipelines: which one keeps all that another one keeps, for ALL Forests."""

from deepcuts.algebra import is_within, over_form
from deepcuts.errors import NoNumber, NotBetween
from deepcuts.forests import Forest, chain
from deepcuts.forms import pipeline_of
from deepcuts.rooms import NOTHING, at_most, formed_over, greater, labels_of, left_room, lesser, treated
from deepcuts.spans import Span, is_endless


def compare(p, q):
    """One of the words alike, places, within, around and neither."""
    if p == q:
        return "alike"
    if p.within(q):
        return "places" if q.within(p) else "within"
    return "around" if q.within(p) else "neither"


def outside_run(form, other):
    """The triple (label, many, last) of a path: so many nodes with this label above one with the label last.

    The last node is kept by form and not by the other one. None if there is no such path.
    """
    labels = labels_of(form, other)
    left = [label for label in labels if treated(form, label)[0] is not None]
    for label in left:
        if treated(other, label)[0] is None:
            return label, 0, label
    for label in labels:
        limit = treated(other, label)[1]
        if not at_most(treated(form, label)[1], limit):
            return label, limit + 1, left[0]
    return None


def parting_forest(p, q):
    """A Forest that is one path, of which p and q make unlike Forests; None if they are alike."""
    for label in labels_of(p.form, q.form):
        if p.final(label) != q.final(label):
            return chain((label,))
    # The same labels are left under the same names: what one keeps more shows in what comes out.
    return outside_forest(q, p) if p.within(q) else outside_forest(p, q)


def outside_forest(p, q):
    """A Forest that is one path, with a node that p keeps and q does not; None if p is within q."""
    run = outside_run(p.form, q.form)
    if run is None:
        return None
    label, many, last = run
    return chain((label,) * many + (last,))


def more_forest(p, q):
    """A Forest of which more nodes come out of p than out of q; None if p is within q."""
    run = outside_run(p.form, q.form)
    if run is None:
        return None
    label, many, last = run
    # q may keep the nodes above: so there is one more beneath, which p alone keeps.
    trees = ((last, ()),) * (many + 1)
    for _ in range(many):
        trees = ((label, trees),)
    return Forest(trees)


def crossing(form, other):
    """The quadruple (x, a, y, b) of two labels and their lesser rooms, that of x in form, that of y in the other one.

    Both are less than the greater rooms that these labels have in the other one and in form. None if there are no two.
    """
    rows = [(label, treated(form, label)[1], treated(other, label)[1]) for label in labels_of(form, other)]
    rows = [row for row in rows if row[1] != 0 and row[2] != 0]
    for x, a, wide in rows:
        for y, high, b in rows:
            if not at_most(lesser(wide, high), greater(a, b)):
                return x, a, y, b
    return None


def both_forest(p, q):
    """A Forest that is one path, with a node that p and q keep and p & q does not; None if there is none."""
    both = [label for label in labels_of(p.form, q.form) if label in p.left and label in q.left]
    found = crossing(p.form, q.form)
    if not both or found is None:
        return None
    x, a, y, b = found
    # Together one more than the greater one of both rooms: p & q has these two rooms, p and q only one of them each.
    many = a if a <= b else a + 1 - b
    return chain((x,) * many + (y,) * (max(a, b) + 1 - many) + (both[0],))


def over(p, names):
    """The greatest Pipeline over these names that is within p."""
    return pipeline_of(over_form(p.form, names))


def with_row(rows, at, row):
    """The rows with another one at this place."""
    return rows[:at] + [row] + rows[at + 1:]


def with_room(rows, own):
    """The rows with this room for the labels that are left."""
    return [(name, last, room if last is None else own) for name, last, room in rows]


def rows_above(rows, own):
    """All rows next around these, of which some are left, having this room."""
    found = []
    for at, (name, last, room) in enumerate(rows):
        if last is None and room is not None:
            found.append(with_row(rows, at, (name, None, greater(own, 1) if room == 0 else room + 1)))
        if last is None and room == own:
            found.append(with_row(rows, at, (name, name, own)))
    # Those left can have no more room while another label has just theirs: this one would have to have more, too.
    held = own != 0 and any([last is None and room == own for _, last, room in rows])
    if own is not None and not held:
        found.append(with_room(rows, own + 1))
    return found


def rows_below(rows, own):
    """All rows next within these, those left having this room."""
    left = [row for row in rows if row[1] is not None]
    # Only what has no room at all is next to what leaves nothing.
    bare = all([row[2] == 0 for row in rows])
    found = []
    for at, (name, last, room) in enumerate(rows):
        if last is None and room == greater(own, 1):
            found.append(with_row(rows, at, (name, None, 0)))
        elif last is None and room is not None and room > 0:
            found.append(with_row(rows, at, (name, None, room - 1)))
        elif last is not None and (len(left) > 1 or bare):
            found.append(with_row(rows, at, (name, None, own)))
    if own is not None and own > 0:
        found.append(with_room(rows, own - 1))
    return found


def above(p, names):
    """The Pipelines over these names that are next around over(p, names)."""
    low = over_form(p.form, names)
    rows = [(name,) + treated(low, name) for name in names]
    if low == NOTHING:
        found = [with_row(rows, at, (name, name, 0)) for at, name in enumerate(names)]
    else:
        found = rows_above(rows, left_room(low))
    return [pipeline_of(formed_over(told)) for told in found]


def below(p, names):
    """The Pipelines over these names that are next within over(p, names)."""
    high = over_form(p.form, names)
    rows = [(name,) + treated(high, name) for name in names]
    return [pipeline_of(formed_over(told)) for told in rows_below(rows, left_room(high))]


def many_between(p, q, names):
    """How many Pipelines over these names there are from over(p, names) to over(q, names); None if endlessly many."""
    low, high = over_form(p.form, names), over_form(q.form, names)
    if not is_within(low, high):
        return 0
    if is_endless(low, high, names):
        return None
    return Span(low, high, names).size()


def nth_between(p, q, names, number):
    """The one of them with this number. Where there are endlessly many, they have no numbers."""
    many = many_between(p, q, names)
    if many is None or not 0 <= number < many:
        raise NoNumber(number)
    return pipeline_of(Span(over_form(p.form, names), over_form(q.form, names), names).form_at(number))


def rank_between(p, q, names, third):
    """The number of the Pipeline third; None if it is one of endlessly many, which have no numbers."""
    low, high = over_form(p.form, names), over_form(q.form, names)
    form = third.form
    if over_form(form, names) != form or not is_within(low, form) or not is_within(form, high):
        raise NotBetween(form)
    if is_endless(low, high, names):
        return None
    return Span(low, high, names).rank_of(form)
