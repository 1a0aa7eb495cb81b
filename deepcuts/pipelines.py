"""Pipelines: steps through which a forest goes one after another."""

from deepcuts.algebra import both_forms, either_form, is_within, many_times
from deepcuts.errors import NoPlace
from deepcuts.rooms import depth_of, form_of, left_labels, plain_steps, treated
from deepcuts.steps import Step


class Pipeline:
    """A pipeline that does not change."""

    def __init__(self, steps=()):
        self._steps = tuple(steps)
        self._form = form_of(self._steps)

    @staticmethod
    def of(text):
        """The Pipeline with this text."""
        if text == "-":
            return Pipeline()
        return Pipeline([Step.of(part) for part in text.split("; ")])

    @property
    def steps(self):
        """The tuple of its Steps."""
        return self._steps

    @property
    def text(self):
        """The text from which `of` makes a Pipeline of equal steps."""
        return "; ".join([step.text for step in self._steps]) or "-"

    @property
    def form(self):
        """Its FORM: the room and the last name of each label."""
        return self._form

    @property
    def left(self):
        """The Labels that are left."""
        return left_labels(self._form)

    @property
    def depth(self):
        """How deep what comes out can be, None without end."""
        return depth_of(self._form)

    @property
    def plain(self):
        """The Pipeline alike to this one with the plain steps of its FORM."""
        return Pipeline(plain_steps(self._form))

    def room(self, label):
        """How many nodes with this label can stand above one that stays, None for any number."""
        return treated(self._form, label)[1]

    def final(self, label):
        """The last name of this label, None if it is not left."""
        return treated(self._form, label)[0]

    def __len__(self):
        return len(self._steps)

    def __getitem__(self, at):
        if not 0 <= at < len(self._steps):
            raise NoPlace(at)
        return self._steps[at]

    def __iter__(self):
        raise TypeError("a Pipeline can not be gone through")

    def __call__(self, forest):
        for step in self._steps:
            forest = step(forest)
        return forest

    def places(self, forest):
        """The set of the places, in the forest that goes in, of the nodes that stay."""
        kept = tuple(range(len(forest)))
        for step in self._steps:
            kept = tuple([kept[place] for place in step.places(forest)])
            forest = step(forest)
        return kept

    def within(self, q):
        """Whether q keeps each node that this one keeps, for ALL Forests."""
        return is_within(self._form, q.form)

    def __rshift__(self, other):
        if isinstance(other, Step):
            return Pipeline(self._steps + (other,))
        return Pipeline(self._steps + other.steps)

    def __mul__(self, other):
        return Pipeline(plain_steps(many_times(self._form, other)))

    def __and__(self, other):
        return Pipeline(plain_steps(both_forms(self._form, other.form)))

    def __or__(self, other):
        return Pipeline(plain_steps(either_form(self._form, other.form)))

    def __eq__(self, other):
        return isinstance(other, Pipeline) and self._form == other._form
