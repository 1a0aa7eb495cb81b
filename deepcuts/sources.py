"""What can have gone in: sources of a Forest, what can have stood above a node, and what is sure so far."""

from deepcuts.errors import NoPlace, NothingOpen
from deepcuts.forests import Forest
from deepcuts.labels import Labels
from deepcuts.rooms import are_enough, at_most, least_room, left_labels, roomy_labels, treated
from deepcuts.shapes import flat, nested


def origin(form, name):
    """A label whose last name this is; None if there is none."""
    for label, last, _ in form[0]:
        if last == name:
            return label
    return name if treated(form, name)[0] == name else None


def strange_place(pipeline, forest):
    """The least place of a node that can not come out; None if the Forest has a source."""
    origins = {name: origin(pipeline.form, name) for name in forest.names}
    names, depths = flat(forest.trees)
    for place, depth in enumerate(depths):
        if origins[names[place]] is None or not at_most(depth, pipeline.depth):
            return place
    return None


def can_come(pipeline, forest):
    """Whether the Forest has a source."""
    return strange_place(pipeline, forest) is None


def labels_before(pipeline, forest):
    """For each place a label with which this node can have gone in, of a Forest that has a source."""
    origins = {name: origin(pipeline.form, name) for name in forest.names}
    return [origins[forest[place]] for place in range(len(forest))]


def source(pipeline, forest):
    """A source with as many nodes as the Forest; None if it has no source."""
    if not can_come(pipeline, forest):
        return None
    return Forest(nested(labels_before(pipeline, forest), flat(forest.trees)[1]))


def longest_through(forest, place):
    """How many nodes the longest path through this node has."""
    depths = flat(forest.trees)[1]
    return max([depths[at] for at in (place,) + forest.below(place)])


def could_stand(pipeline, forest, place, names):
    """Whether in some source nodes with these labels stood above this one, and have gone."""
    many = longest_through(forest, place)
    if not can_come(pipeline, forest) or any([pipeline.final(name) is not None for name in names]):
        return False
    # The nodes left of the longest path stand above its last one, with rooms that are no greater.
    return are_enough([pipeline.room(name) for name in names], many)


def source_with(pipeline, forest, place, names):
    """A source in which just these nodes have gone, directly above this one; None if there is none."""
    if not could_stand(pipeline, forest, place, names):
        return None
    labels = labels_before(pipeline, forest)
    depths = list(flat(forest.trees)[1])
    end = place + 1 + len(forest.below(place))
    many = len(names)
    inner = [depths[place] + at for at in range(many)] + [depth + many for depth in depths[place:end]]
    return Forest(nested(labels[:place] + list(names) + labels[place:], depths[:place] + inner + depths[end:]))


def labels_above(pipeline, forest, place):
    """The Labels that one node can have had that stood above this one, and has gone."""
    many = longest_through(forest, place)
    if not can_come(pipeline, forest):
        return Labels()
    return roomy_labels(pipeline.form, many) - left_labels(pipeline.form)


def how_many_above(pipeline, forest, place):
    """How many such nodes there can have been at most; None if there is no greatest number."""
    many = longest_through(forest, place)
    if not can_come(pipeline, forest):
        return 0
    rooms = gone_rooms_of(pipeline.form)
    if None in rooms:
        return None
    return max([0] + [room - many + 1 for room in rooms])


def gone_rooms_of(form):
    """The rooms of the labels that are not left."""
    rooms = [room for _, last, room in form[0] if last is None]
    return rooms if form[1][0] else rooms + [form[1][1]]


def all_rooms(form):
    """The rooms of all labels."""
    return [room for _, _, room in form[0]] + [form[1][1]]


def sure_places(pipeline, forest, unknown):
    """The set of the places whose nodes stay, whatever labels the nodes at unknown places have."""
    return places_if(pipeline, forest, unknown, pipeline.left == Labels((), True), least_room(all_rooms(pipeline.form)))


def maybe_places(pipeline, forest, unknown):
    """The set of the places whose nodes stay for some labels of the nodes at unknown places."""
    rooms = all_rooms(pipeline.form)
    return places_if(pipeline, forest, unknown, pipeline.left != Labels(), None if None in rooms else max(rooms))


def places_if(pipeline, forest, unknown, left, room):
    """The set of the places whose nodes stay if unknown ones are left or not, and have this room."""
    for place in unknown:
        if not 0 <= place < len(forest):
            raise NoPlace(place)
    staying = []
    rooms = []
    for place in range(len(forest)):
        staying.append(left if place in unknown else pipeline.final(forest[place]) is not None)
        rooms.append(room if place in unknown else pipeline.room(forest[place]))
    return tuple([place for place in range(len(forest))
                  if staying[place] and are_enough([rooms[at] for at in forest.above(place)])])


class Live:
    """Reads a Forest node by node, and tells what stays."""

    def __init__(self, pipeline):
        self._pipeline = pipeline
        # The labels of all nodes that have begun, and those of the nodes that have not ended.
        self._begun = []
        self._path = []
        # The rows of what has come out so far.
        self._out_names = []
        self._out_depths = []

    @property
    def pipeline(self):
        """The Pipeline that the Forest goes through."""
        return self._pipeline

    @property
    def names(self):
        """The labels of the nodes that are open, the outermost one first."""
        return tuple(self._path)

    @property
    def out(self):
        """The Forest that has come out so far."""
        return Forest(nested(self._out_names, self._out_depths))

    def __len__(self):
        return len(self._begun)

    def begin(self, name):
        """A node with this label begins; its last name if it stays, otherwise None."""
        last = self.may(name)
        if last is not None:
            # All nodes above a node that stays stay, too, if their labels are left.
            above = [label for label in self._path if self._pipeline.final(label) is not None]
            self._out_names.append(last)
            self._out_depths.append(len(above) + 1)
        self._begun.append(name)
        self._path.append(name)
        return last

    def end(self):
        """The node that began last and is still open ends; its NAME."""
        if len(self._path) == 0:
            raise NothingOpen()
        return self._path.pop()

    def may(self, name):
        """What begin would return."""
        return self._pipeline.final(name) if are_enough(self._rooms()) else None

    def begins(self):
        """The Labels that a node can have that begins now, such that a node beneath it can stay."""
        rooms = self._rooms()
        if not are_enough(rooms):
            return Labels()
        # So many rooms that are no greater leave no place for one more of these.
        full = max([many for many in range(len(rooms) + 1) if held(rooms, many) == many])
        return roomy_labels(self._pipeline.form, full + 1)

    def most(self, name):
        """How many nodes with this label can begin now, one beneath another, such that one beneath them can stay."""
        rooms = self._rooms()
        room = self._pipeline.room(name)
        if not are_enough(rooms):
            return 0
        if room is None:
            return None
        ends = [room] + [own for own in rooms if own is not None and own > room]
        return min([end - held(rooms, end) for end in ends])

    def copied(self):
        """A Live in the same state, which goes on by itself."""
        other = Live(self._pipeline)
        other._begun = list(self._begun)
        other._path = list(self._path)
        other._out_names = list(self._out_names)
        other._out_depths = list(self._out_depths)
        return other

    def _rooms(self):
        return [self._pipeline.room(label) for label in self._path]


def held(rooms, end):
    """How many of the rooms are at most end, a number."""
    return len([room for room in rooms if at_most(room, end)])
