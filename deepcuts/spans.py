"""FORMs between two others, in order: how many there are, which one has a number, which number one has."""

from math import comb

from deepcuts.rooms import NOTHING, formed_over, left_room, treated


def summed(values, many):
    """The sum of so many values of a polynomial that begin with these, one more than its degree or all of them."""
    # By Newton's forward differences: the number of values may have forty digits.
    total = 0
    for k in range(len(values)):
        total = total + comb(many, k + 1) * values[0]
        values = [after - before for before, after in zip(values, values[1:])]
    return total


def is_endless(low, high, names):
    """Whether there are endlessly many FORMs over these names from low to high, low being within high."""
    if low != NOTHING and left_room(low) is None:
        return False
    return any([treated(high, name)[1] is None and treated(low, name)[1] is not None for name in names])


def top_room(low, high, names):
    """A number greater than all rooms of these names that are numbers."""
    rooms = [treated(form, name)[1] for form in (low, high) for name in names]
    return max([room for room in rooms if room is not None], default=0) + 1


class Span:
    """The FORMs over some names from low to high, which are not endlessly many.

    A number that is greater than all others stands for None here: where there are not endlessly many, a room that can
    be None can be no number but 0.
    """

    def __init__(self, low, high, names):
        self._names = tuple(names)
        self._top = top_room(low, high, names)
        self._lows = {name: self._told(treated(low, name)[1]) for name in names}
        self._highs = {name: self._told(treated(high, name)[1]) for name in names}
        self._most = self._told(left_room(high))
        # One of them leaves nothing, or none does so.
        self._bare = 1 if low == NOTHING else 0
        self._lots = lots_between(low, high, names)

    def _told(self, room):
        return self._top if room is None else room

    def _start(self, name, own):
        """The least room but 0 that a name that is not left can have, if those left have this room."""
        return max(own, 1, self._lows[name])

    def _options(self, name, own):
        """How many rooms a name that is not left can have, if those left have this room."""
        bare = 1 if self._lows[name] == 0 else 0
        return bare + max(0, self._highs[name] - self._start(name, own) + 1)

    def _many_with(self, left, own):
        """How many there are with just these names left, with this room."""
        many = 1
        for name in self._names:
            if name not in left:
                many = many * self._options(name, own)
        return many

    def _many_to(self, left, own):
        """How many there are with just these names left, with this room or a lesser one."""
        first = self._least_room(left)
        starts = [self._start(name, first) for name in self._names if name not in left]
        # Between two of these numbers the options of each name are as many as a polynomial tells, of degree 0 or 1.
        ends = sorted(set([first, own + 1] + [start for start in starts if start <= own]))
        total = 0
        for at, end in zip(ends, ends[1:]):
            values = [self._many_with(left, at + k) for k in range(min(end - at, len(starts) + 1))]
            total = total + summed(values, end - at)
        return total

    def _least_room(self, left):
        return max([self._lows[name] for name in left])

    def size(self):
        """How many there are."""
        return self._bare + sum([self._many_to(left, self._most) for left in self._lots])

    def form_at(self, number):
        """The FORM with this number."""
        number = number - self._bare
        for left in self._lots:
            many = self._many_to(left, self._most)
            if 0 <= number < many:
                return self._picked(left, number)
            number = number - many
        return NOTHING

    def _picked(self, left, number):
        """The FORM with this number of those with just these names left."""
        low = self._least_room(left)
        high = self._most
        while low < high:
            own = (low + high) // 2
            if number < self._many_to(left, own):
                high = own
            else:
                low = own + 1
        return self._form_with(left, low, number - self._many_to(left, low - 1))

    def _form_with(self, left, own, number):
        """The FORM with this number of those with just these names left, with this room."""
        rows = []
        share = self._many_with(left, own)
        for name in self._names:
            if name in left:
                rows.append((name, name, self._room(own)))
            else:
                share = share // self._options(name, own)
                rows.append((name, None, self._room(self._option(name, own, number // share))))
                number = number % share
        return formed_over(rows)

    def _room(self, number):
        return None if number == self._top else number

    def _option(self, name, own, number):
        """The room with this number of those that a name that is not left can have."""
        if self._lows[name] > 0:
            return self._start(name, own) + number
        return 0 if number == 0 else self._start(name, own) + number - 1

    def rank_of(self, form):
        """The number of a FORM, which is one of them."""
        if form == NOTHING:
            return 0
        left = tuple([name for name in self._names if treated(form, name)[0] is not None])
        own = self._told(left_room(form))
        ahead = [self._many_to(lot, self._most) for lot in self._lots if lot < left]
        number = 0
        for name in self._names:
            if name not in left:
                number = number * self._options(name, own) + self._option_number(name, own, treated(form, name)[1])
        return self._bare + sum(ahead) + self._many_to(left, own - 1) + number

    def _option_number(self, name, own, room):
        if self._lows[name] > 0:
            return self._told(room) - self._start(name, own)
        return 0 if room == 0 else self._told(room) - self._start(name, own) + 1


def lots_between(low, high, names):
    """The sets of names, ascending, that can be left between low and high, the one without names apart."""
    lots = [()]
    for name in names:
        if treated(low, name)[0] is not None:
            lots = [lot + (name,) for lot in lots]
        elif treated(high, name)[0] is not None:
            lots = lots + [lot + (name,) for lot in lots]
    return [lot for lot in sorted(lots) if lot]
