"""What steps cost: which ones can be left out, and how few, or how cheap ones, do the same."""

from deepcuts.order import compare
from deepcuts.pipelines import Pipeline
from deepcuts.rooms import left_room
from deepcuts.steps import KINDS, Step


def without(pipeline, number):
    """The Pipeline without the step with this number."""
    return Pipeline(pipeline.steps[:number] + pipeline.steps[number + 1:])


def needless(pipeline):
    """The ascending tuple of the numbers of the steps each of which can be left out by itself."""
    return tuple([number for number in range(len(pipeline)) if without(pipeline, number) == pipeline])


def effects(pipeline):
    """For each step what compare tells of the Pipeline without this step, and of the whole one."""
    return tuple([compare(without(pipeline, number), pipeline) for number in range(len(pipeline))])


def kinds_needed(pipeline):
    """How many drops, unwraps, cuts and renames are needed for a Pipeline alike to this one."""
    kinds = [step.kind for step in pipeline.plain.steps]
    return tuple([kinds.count(kind) for kind in KINDS])


def price_of(pipeline, prices):
    """The sum of the prices of the kinds of its steps."""
    return sum([prices[step.kind] for step in pipeline.steps])


def cheapest(pipeline, prices):
    """A Pipeline alike to this one with the least price."""
    plain = pipeline.plain
    undropped = without_drop(plain)
    return undropped if price_of(undropped, prices) < price_of(plain, prices) else plain


def without_drop(plain):
    """The plain Pipeline with an unwrap for its drop, if it has one, and if it can be so."""
    if len(plain) == 0 or plain[0].kind != "drop" or left_room(plain.form) != 0:
        return plain
    # Behind the last cut nothing stands beneath a node any more.
    unwrap = Step("unwrap", plain[0].what)
    renames = tuple([step for step in plain.steps if step.kind == "rename"])
    return Pipeline(plain.steps[1:len(plain) - len(renames)] + (unwrap,) + renames)


def fewest(pipeline):
    """A Pipeline alike to this one with as few steps as can be."""
    return pipeline.plain
