"""Deeds: each makes a state of a Board of another one, or is refused.

A state is a quadruple (page, house, views, frames): a Forest, a Pipeline, and two dicts by NAMEs, of Pipelines and of
pairs (low, high) of Pipelines or None. States do not change.
"""

from deepcuts.errors import NoFrame, NoPlace, NoView, Outside, Stopped
from deepcuts.forests import Forest
from deepcuts.pages import with_name, with_node, without_node, without_tree
from deepcuts.pipelines import Pipeline


def first_state():
    """The state of a Board on which nothing has been done."""
    return Forest(), Pipeline(), {}, {}


def view_of(state, name):
    """The view with this NAME."""
    views = state[2]
    if name not in views:
        raise NoView(name)
    return views[name]


def is_between(pipeline, low, high):
    """Whether a Pipeline is within a frame."""
    return (low is None or low.within(pipeline)) and (high is None or pipeline.within(high))


def without(table, name):
    """The dict without this NAME."""
    return {key: table[key] for key in table if key != name}


def set_view(state, name, pipeline):
    """The view is this Pipeline."""
    page, house, views, frames = state
    low, high = frames.get(name, (None, None))
    if not is_between(pipeline, low, high):
        raise Outside(name)
    return page, house, {**views, name: pipeline}, frames


def leave(state, name):
    """The view goes, with its frame."""
    page, house, views, frames = state
    view_of(state, name)
    return page, house, without(views, name), without(frames, name)


def add_step(state, name, step):
    """The Step comes behind those of the view."""
    return set_view(state, name, view_of(state, name) >> step)


def set_frame(state, name, low, high):
    """The view has this frame."""
    page, house, views, frames = state
    if not is_between(view_of(state, name), low, high):
        raise Outside(name)
    return page, house, views, {**frames, name: (low, high)}


def lift(state, name):
    """The frame goes."""
    page, house, views, frames = state
    view_of(state, name)
    if name not in frames:
        raise NoFrame(name)
    return page, house, views, without(frames, name)


def turn(state, pipeline):
    """The house Pipeline is this one."""
    page, _, views, frames = state
    return page, pipeline, views, frames


def put(state, place, label):
    """A new node comes beneath the one at this place, or behind all TREEs."""
    page, house, views, frames = state
    return with_node(page, place, label), house, views, frames


def take(state, place):
    """The node goes, with all beneath."""
    page, house, views, frames = state
    return without_tree(page, place), house, views, frames


def unwrap(state, place):
    """The node goes, and what stands beneath takes its place."""
    page, house, views, frames = state
    return without_node(page, place), house, views, frames


def call(state, place, label):
    """The node has this NAME from now on."""
    page, house, views, frames = state
    return with_name(page, place, label), house, views, frames


DEEDS = {"set": set_view, "leave": leave, "step": add_step, "frame": set_frame, "lift": lift, "turn": turn, "put": put,
         "take": take, "unwrap": unwrap, "call": call}


def done(state, deed):
    """The state that a deed makes, told as a tuple of its word and what it is done with."""
    action = DEEDS[deed[0]]
    given = deed[1:]
    return action(state, *given)


def done_as(state, number, deed):
    """The state that the deed with this number makes; Stopped if it is refused."""
    try:
        return done(state, deed)
    except NoView as error:
        raise Stopped(number, "NoView", error.name)
    except NoFrame as error:
        raise Stopped(number, "NoFrame", error.name)
    except Outside as error:
        raise Stopped(number, "Outside", error.name)
    except NoPlace as error:
        raise Stopped(number, "NoPlace", error.place)
