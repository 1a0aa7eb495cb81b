"""Boards: a page that is seen through views, behind a house Pipeline, each view within its frame."""

from deepcuts.algebra import is_within, one_behind
from deepcuts.deeds import done, done_as, first_state, view_of
from deepcuts.order import compare


def plain_text(pipeline):
    """The text of the plain form of a Pipeline, None for None."""
    return None if pipeline is None else pipeline.plain.text


class Board:
    """A page, a house Pipeline, and views by NAMEs with their frames."""

    def __init__(self):
        # States do not change: each deed puts another one in the place of this one.
        self._state = first_state()
        self._past = []

    @property
    def page(self):
        """The Forest that is seen."""
        return self._state[0]

    @property
    def house(self):
        """The Pipeline ahead of all views."""
        return self._state[1]

    @property
    def names(self):
        """The ascending tuple of the views' NAMEs."""
        return tuple(sorted(self._state[2]))

    @property
    def frames(self):
        """The ascending tuple of the triples (name, low, high) of all frames, of the texts of plain forms."""
        frames = self._state[3]
        return tuple([(name, plain_text(frames[name][0]), plain_text(frames[name][1])) for name in sorted(frames)])

    def __len__(self):
        return len(self._state[2])

    def __contains__(self, x):
        return x in self._state[2]

    def __getitem__(self, at):
        return view_of(self._state, at)

    def __iter__(self):
        raise TypeError("a Board can not be gone through")

    def __eq__(self, other):
        return isinstance(other, Board) and self._state == other._state

    def seen(self, name):
        """The set of the places of the page that stay through the house Pipeline and this view."""
        return (self.house >> view_of(self._state, name)).places(self.page)

    def shown(self, name):
        """The Forest that comes out of the house Pipeline and this view."""
        return (self.house >> view_of(self._state, name))(self.page)

    def common(self):
        """The set of the places that all views show; () without views."""
        seen = [self.seen(name) for name in self.names]
        if not seen:
            return ()
        return tuple([place for place in seen[0] if all([place in places for places in seen])])

    def unseen(self):
        """The set of the places that no view shows."""
        seen = [self.seen(name) for name in self.names]
        return tuple([place for place in range(len(self.page)) if not any([place in places for places in seen])])

    def idle(self):
        """The ascending tuple of the NAMEs of views that can go, each by itself."""
        forms = {name: one_behind(self.house.form, self[name].form) for name in self.names}
        return tuple([name for name in self.names if is_idle(forms, name)])

    def effect(self, name, pipeline):
        """What compare tells of the view and this Pipeline."""
        return compare(view_of(self._state, name), pipeline)

    def __setitem__(self, at, worth):
        self._do(("set", at, worth))

    def leave(self, name):
        """The view goes, with its frame."""
        self._do(("leave", name))

    def __iadd__(self, other):
        name, step = other
        self._do(("step", name, step))
        return self

    def frame(self, name, low, high):
        """The view has this frame, in the place of an earlier one."""
        self._do(("frame", name, low, high))

    def lift(self, name):
        """The frame of the view goes."""
        self._do(("lift", name))

    def turn(self, pipeline):
        """The house Pipeline is this one."""
        self._do(("turn", pipeline))

    def put(self, place, label):
        """A new node comes behind all that stands directly beneath this one; place None: behind all TREEs."""
        self._do(("put", place, label))

    def take(self, place):
        """The node goes, with all beneath."""
        self._do(("take", place))

    def unwrap(self, place):
        """The node goes, and what stands beneath takes its place."""
        self._do(("unwrap", place))

    def call(self, place, label):
        """The node has this NAME from now on."""
        self._do(("call", place, label))

    def attempt(self, deeds):
        """All of these deeds, or none of them."""
        state = self._state
        for number, deed in enumerate(deeds):
            state = done_as(state, number, deed)
        self._become(state)

    def undo(self):
        """Takes back the last deed that was not refused and not taken back yet; whether there was one."""
        if not self._past:
            return False
        self._state = self._past.pop()
        return True

    def twin(self):
        """Another Board in the same state, with the same deeds to take back."""
        other = Board()
        other._state = self._state
        other._past = list(self._past)
        return other

    def _do(self, deed):
        self._become(done(self._state, deed))

    def _become(self, state):
        self._past.append(self._state)
        self._state = state


def board_at(state):
    """A Board in this state, with no deed to take back."""
    board = Board()
    board._state = state
    return board


def is_idle(forms, name):
    """Whether the view with this NAME can go, by the FORMs of all views behind the house Pipeline."""
    own = forms[name]
    for other in forms:
        # Of views that show the same the one with the least NAME is needed for the others.
        if other != name and is_within(own, forms[other]) and (other < name or not is_within(forms[other], own)):
            return True
    return False
