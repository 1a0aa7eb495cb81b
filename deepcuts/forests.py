"""Forests: TREEs of NAMEs side by side, whose nodes are told by their places."""

from deepcuts.errors import BadText, NoPlace
from deepcuts.labels import is_name
from deepcuts.shapes import flat, nested, read_rows, written


def is_trees(thing):
    """Whether thing is a tuple of TREEs."""
    waiting = [thing]
    while waiting:
        trees = waiting.pop()
        if not isinstance(trees, tuple):
            return False
        for tree in trees:
            if not isinstance(tree, tuple) or len(tree) != 2 or not is_name(tree[0]):
                return False
            waiting.append(tree[1])
    return True


def chain(names):
    """The Forest that is one path of these NAMEs, the first one outermost."""
    trees = ()
    for name in names[::-1]:
        trees = ((name, trees),)
    return Forest(trees)


class Forest:
    """A forest that does not change."""

    def __init__(self, trees=()):
        self._names, self._depths = flat(trees)
        self._trees = nested(self._names, self._depths)

    @staticmethod
    def of(text):
        """The Forest with this text."""
        if text == "-":
            return Forest()
        names, depths = read_rows(text)
        # Rows are read from any text: only a text that they are written by is one.
        if not all([is_name(name) for name in names]) or not all([depth > 0 for depth in depths]):
            raise BadText()
        if written(names, depths) != text:
            raise BadText()
        return Forest(nested(names, depths))

    @property
    def trees(self):
        """The tuple of its TREEs."""
        return self._trees

    @property
    def text(self):
        """The text from which `of` makes an equal Forest."""
        return written(self._names, self._depths)

    @property
    def names(self):
        """The set of the NAMEs that stand in it."""
        return tuple(sorted(set(self._names)))

    @property
    def depth(self):
        """The greatest depth of a node, 0 without nodes."""
        return max(self._depths, default=0)

    def __len__(self):
        return len(self._names)

    def __getitem__(self, at):
        self._check(at)
        return self._names[at]

    def __iter__(self):
        raise TypeError("a Forest can not be gone through")

    def path(self, place):
        """The NAMEs on the path of this node, from the outermost one down."""
        return tuple([self._names[at] for at in self.above(place) + (place,)])

    def above(self, place):
        """The set of the places of the nodes above this one."""
        self._check(place)
        found = []
        depth = self._depths[place]
        for at in reversed(range(place)):
            if self._depths[at] < depth:
                found.append(at)
                depth = self._depths[at]
        return tuple(sorted(found))

    def below(self, place):
        """The set of the places of all nodes beneath this one."""
        self._check(place)
        end = place + 1
        while end < len(self._depths) and self._depths[end] > self._depths[place]:
            end = end + 1
        return tuple(range(place + 1, end))

    def only(self, places):
        """The Forest of just the nodes at these places; what is beneath one that goes takes its place."""
        for place in places:
            self._check(place)
        kept = set(places)
        names = []
        depths = []
        # counts[d] is how many of the d outermost nodes of the path stay.
        counts = [0]
        for place, depth in enumerate(self._depths):
            counts = counts[:depth]
            if place in kept:
                counts.append(counts[-1] + 1)
                names.append(self._names[place])
                depths.append(counts[-1])
            else:
                counts.append(counts[-1])
        return Forest(nested(names, depths))

    def __add__(self, other):
        return Forest(self._trees + other.trees)

    def under(self, name):
        """One TREE with this NAME, and this forest beneath it."""
        return Forest(((name, self._trees),))

    def __eq__(self, other):
        return isinstance(other, Forest) and self._names == other._names and self._depths == other._depths

    def _check(self, place):
        if not 0 <= place < len(self._names):
            raise NoPlace(place)
