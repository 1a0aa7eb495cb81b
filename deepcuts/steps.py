"""Steps: each makes a forest of a forest."""

from deepcuts.errors import BadStep, BadText, tupled
from deepcuts.forests import Forest
from deepcuts.labels import Labels, is_name
from deepcuts.numerals import number_in
from deepcuts.shapes import flat, nested

KINDS = ("drop", "unwrap", "cut", "rename")


def is_step(kind, what):
    """Whether there is a Step of this kind and what."""
    if kind == "cut":
        return what >= 1
    if kind == "rename":
        return len(set([pair[0] for pair in what])) == len(what)
    return kind in KINDS


def pairs_in(text):
    """The pairs of a rename with this text."""
    if text == "-":
        return ()
    pairs = []
    for word in text.split(" "):
        first, _, second = word.partition("=")
        if not is_name(first) or not is_name(second) or first == second:
            raise BadText()
        pairs.append((first, second))
    firsts = [pair[0] for pair in pairs]
    if firsts != sorted(set(firsts)):
        raise BadText()
    return tuple(pairs)


def pairs_text(pairs):
    """The text from which `pairs_in` makes these pairs."""
    return " ".join([f"{first}={second}" for first, second in pairs]) or "-"


def undropped(names, depths, labels):
    """The places that stay where nodes with these Labels go with all beneath, for rows of `flat`."""
    places = []
    # The depth of the dropped node that those read now are beneath, None if they are beneath none.
    dropped = None
    for place, depth in enumerate(depths):
        if dropped is None or depth <= dropped:
            dropped = depth if names[place] in labels else None
            if dropped is None:
                places.append(place)
    return tuple(places)


class Step:
    """A step that does not change."""

    def __init__(self, kind, what):
        if not is_step(kind, what):
            raise BadStep((kind, what))
        self._kind = kind
        self._what = what
        if kind == "rename":
            self._what = tuple(sorted([tupled(pair) for pair in what if pair[0] != pair[1]]))

    @staticmethod
    def of(text):
        """The Step with this text."""
        kind, _, rest = text.partition(" ")
        if kind == "drop" or kind == "unwrap":
            return Step(kind, Labels.of(rest))
        if kind == "rename":
            return Step(kind, pairs_in(rest))
        number = number_in(rest) if kind == "cut" else 0
        if number < 1:
            raise BadText()
        return Step(kind, number)

    @property
    def kind(self):
        """One of the four words drop, unwrap, cut and rename."""
        return self._kind

    @property
    def what(self):
        """The Labels, the number, or the ascending tuple of the pairs of unlike NAMEs."""
        return self._what

    @property
    def text(self):
        """The text from which `of` makes an equal Step."""
        if self._kind == "cut":
            return f"cut {self._what}"
        if self._kind == "rename":
            return f"rename {pairs_text(self._what)}"
        return f"{self._kind} {self._what.text}"

    def __call__(self, forest):
        if self._kind != "rename":
            return forest.only(self.places(forest))
        names, depths = flat(forest.trees)
        called = dict(self._what)
        return Forest(nested([called.get(name, name) for name in names], depths))

    def places(self, forest):
        """The set of the places of the nodes that stay."""
        names, depths = flat(forest.trees)
        if self._kind == "drop":
            return undropped(names, depths, self._what)
        if self._kind == "unwrap":
            return tuple([place for place, name in enumerate(names) if name not in self._what])
        if self._kind == "cut":
            return tuple([place for place, depth in enumerate(depths) if depth <= self._what])
        return tuple(range(len(names)))

    def __eq__(self, other):
        return isinstance(other, Step) and self._kind == other._kind and self._what == other._what
