"""Filters one behind another in an order that nobody may know."""

from deepcuts.algebra import both_forms, either_form, one_behind
from deepcuts.behind import either_order
from deepcuts.errors import Renaming
from deepcuts.forms import pipeline_of
from deepcuts.rooms import UNCHANGED, formed, labels_for, lesser, renames_some, told_in_form, treated_all


def in_row(filters, order):
    """The plain form of the filters one behind another in this order."""
    form = UNCHANGED
    for number in order:
        form = one_behind(form, filters[number].form)
    return pipeline_of(form)


def first_only(order):
    """The order with the first coming of each number alone."""
    return tuple({number: True for number in order})


def renames(p):
    """Whether some label that is left has another last name."""
    return renames_some(p.form)


def check_names(filters):
    """Raises Renaming for the first filter that changes names."""
    for place, pipeline in enumerate(filters):
        if renames(pipeline):
            raise Renaming(place)


def orders_of(many):
    """All orders of so many numbers, ascending."""
    orders = [()]
    for _ in range(many):
        orders = [order + (number,) for order in orders for number in range(many) if number not in order]
    return orders


def done_in_row(way, order):
    """The pair (left, room) of a label behind filters that each do (left, room) to it by itself."""
    room = None
    for number in order:
        left, limit = way[number]
        room = lesser(room, limit)
        if not left:
            return False, room
    return True, room


def forms_of(filters, names):
    """For each FORM of the filters in some order the least order of it, ascending by order.

    The FORMs tell what is done to these names, and to one more label.
    """
    labels = labels_for(names)
    ways = {label: () for label in labels}
    for pipeline in filters:
        for label, (last, room) in zip(labels, treated_all(pipeline.form, labels)):
            ways[label] = ways[label] + ((last is not None, room),)
    found = {}
    for order in orders_of(len(filters)):
        # Most labels are like another one.
        done = {way: done_in_row(way, order) for way in list(ways.values())}
        ends = [(label,) + done[ways[label]] for label in labels]
        found.setdefault(formed([(label, label if left else None, room) for label, left, room in ends]), order)
    return found


def all_forms(filters):
    """For each FORM of the filters in some order the least order of it, ascending by order, if no filter renames."""
    check_names(filters)
    told = [told_in_form(pipeline.form) for pipeline in filters]
    return forms_of(filters, [name for names in told for name in names])


def outcomes(filters):
    """The pairs (order, text) of the orders that are alike to no lesser one, ascending."""
    found = all_forms(filters)
    return [(found[form], pipeline_of(form).text) for form in found]


def all_alike(filters):
    """Whether all orders are alike."""
    return len(all_forms(filters)) == 1


def unlike_pair(filters):
    """The least pair of numbers of two filters that may not be exchanged; None if there is none."""
    check_names(filters)
    for i in range(len(filters)):
        for j in range(i + 1, len(filters)):
            if not either_order(filters[i], filters[j]):
                return i, j
    return None


def order_of_all(filters, joined):
    """The least order of the FORM that all orders make together, two joined at a time; None if it has no order."""
    found = all_forms(filters)
    forms = list(found)
    together = forms[0]
    for form in forms:
        together = joined(together, form)
    return found.get(together)


def most_order(filters):
    """The least order within which each order is; None if there is none."""
    # One around all orders is around the least FORM around all of them, and within it: it is this FORM.
    return order_of_all(filters, either_form)


def least_order(filters):
    """The least order that is within each order; None if there is none."""
    return order_of_all(filters, both_forms)


def kept_by_each(filters, forest):
    """For each FORM of the filters in some order the places of the nodes of the Forest that stay."""
    check_names(filters)
    return [pipeline_of(form).places(forest) for form in forms_of(filters, forest.names)]


def always(filters, forest):
    """The set of the places that stay in all orders."""
    kept = kept_by_each(filters, forest)
    return tuple([place for place in kept[0] if all([place in places for places in kept])])


def sometimes(filters, forest):
    """The set of the places that stay in one order or more."""
    kept = kept_by_each(filters, forest)
    return tuple(sorted(set([place for places in kept for place in places])))
