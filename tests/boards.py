"""A plain model of Boards, and deeds to try them on.

The model keeps TREEs, steps and texts by itself, and tells what is refused, by the words of the document.
"""

from deepcuts.forests import Forest
from deepcuts.pipelines import Pipeline
from tests.pipes import drawn_pipeline, drawn_step, is_within, places_in, run, untagged

NAMES = ["a", "b", "c", "x"]


class Model:
    """What a Board should be: nodes as lists [name, nodes], views and frames in dicts."""

    def __init__(self):
        self.nodes = []
        self.house = Pipeline()
        self.views = {}
        self.frames = {}

    def trees(self):
        return frozen(self.nodes)

    def found(self, place):
        """The pair (nodes, at) of the list in which the node at this place stands, and where."""
        rows = []
        collect(self.nodes, rows)
        return rows[place] if 0 <= place < len(rows) else None

    def refusal(self, deed):
        """The pair (class, value) of what refuses a deed; None if it is done."""
        word, first = deed[0], deed[1]
        if word in ("leave", "step", "frame", "lift") and first not in self.views:
            return "NoView", first
        if word == "lift" and first not in self.frames:
            return "NoFrame", first
        if word in ("take", "unwrap", "call", "put") and not (word == "put" and first is None):
            return None if self.found(first) else ("NoPlace", first)
        if word in ("set", "step"):
            view = deed[2] if word == "set" else self.views[first] >> deed[2]
            low, high = self.frames.get(first, (None, None))
            return None if inside(view, low, high) else ("Outside", first)
        if word == "frame":
            return None if inside(self.views[first], deed[2], deed[3]) else ("Outside", first)
        return None

    def do(self, deed):
        """Does a deed that is not refused."""
        word, *rest = deed
        if word in ("put", "take", "unwrap", "call"):
            self.do_on_page(word, *rest)
        elif word == "turn":
            self.house = rest[0]
        elif word == "set":
            self.views[rest[0]] = rest[1]
        elif word == "step":
            self.views[rest[0]] = self.views[rest[0]] >> rest[1]
        elif word == "frame":
            self.frames[rest[0]] = rest[1], rest[2]
        else:
            self.frames.pop(rest[0], None)
            if word == "leave":
                del self.views[rest[0]]

    def do_on_page(self, word, place, label=None):
        if place is None:
            self.nodes.append([label, []])
            return
        nodes, at = self.found(place)
        if word == "put":
            nodes[at][1].append([label, []])
        elif word == "take":
            del nodes[at]
        elif word == "unwrap":
            nodes[at:at + 1] = nodes[at][1]
        else:
            nodes[at][0] = label

    def seen(self, name):
        return set(places_in(run(self.house >> self.views[name], self.trees())))

    def shown(self, name):
        return untagged(run(self.house >> self.views[name], self.trees()))

    def idle(self):
        """The NAMEs of the views that can go, by the words of the document."""
        made = {name: self.house >> view for name, view in self.views.items()}
        found = []
        for name in sorted(made):
            around = [other for other in made if other != name and is_within(made[name], made[other])]
            same = [other for other in around if is_within(made[other], made[name])]
            if name == min(same + [name]):
                around = [other for other in around if other not in same]
            found += [name] if around else []
        return tuple(found)


def frozen(nodes):
    return tuple([(name, frozen(beneath)) for name, beneath in nodes])


def collect(nodes, rows):
    """Puts all pairs (nodes, at) into rows, in the order of the places."""
    for at, (_, beneath) in enumerate(nodes):
        rows.append((nodes, at))
        collect(beneath, rows)


def inside(view, low, high):
    return (low is None or is_within(low, view)) and (high is None or is_within(view, high))


def state_of(board):
    """All that a Board tells of its state."""
    views = tuple([(name, board[name].text) for name in board.names])
    return board.page.trees, board.house.text, views, board.frames, len(board)


def model_state(model):
    """The same of a model."""
    views = tuple([(name, model.views[name].text) for name in sorted(model.views)])
    frames = tuple([(name,) + tuple([None if end is None else end.plain.text for end in model.frames[name]])
                    for name in sorted(model.frames)])
    return model.trees(), model.house.text, views, frames, len(views)


def do(board, deed):
    """Does a deed with the Board's own method for it."""
    word, *rest = deed
    if word == "set":
        board[rest[0]] = rest[1]
    elif word == "step":
        board += (rest[0], rest[1])
    else:
        assert getattr(board, word)(*rest) is None


def drawn_deed(random, names="abcd"):
    """A deed, which may be refused."""
    name, place = random.choice(names), random.randint(-1, 9)
    view = drawn_pipeline(random, NAMES, 3, 4)
    word = random.choice("set set set leave step step frame frame frame lift turn put put put put take unwrap call".split())
    if word == "set":
        return word, name, view
    if word == "step":
        return word, name, drawn_step(random, NAMES, 4)
    if word == "frame":
        low = random.choice([None, Pipeline.of("drop *"), view >> drawn_step(random, NAMES, 3)])
        high = random.choice([None, Pipeline(), drawn_pipeline(random, NAMES, 1, 5), view])
        return word, name, low, high
    if word in ("leave", "lift"):
        return word, name
    if word == "turn":
        return word, drawn_pipeline(random, NAMES, 2, 4)
    if word in ("put", "call"):
        return word, None if word == "put" and random.random() < 0.2 else place, random.choice(NAMES)
    return word, place


def page_of(text):
    """Deeds that put the nodes of this Forest."""
    forest = Forest.of(text)
    return [("put", (forest.above(place) or (None,))[-1], forest[place]) for place in range(len(forest))]
