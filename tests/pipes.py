"""Plain models of steps, orders and FORMs, and Pipelines and Forests to try them on."""

import itertools

from deepcuts.forests import Forest
from deepcuts.labels import Labels
from deepcuts.pipelines import Pipeline
from deepcuts.steps import Step

# Stands for all labels that are told nowhere.
STRANGE = "zz"
ENDLESS = 10 ** 60


def tagged(trees, count=None):
    """The trees as triples (place, name, trees)."""
    count = itertools.count() if count is None else count
    return [(next(count), name, tagged(beneath, count)) for name, beneath in trees]


def stepped(trees, kind, what, depth=1):
    """What one step makes of tagged trees, read off the table of the document."""
    found = []
    for place, name, beneath in trees:
        if kind == "drop":
            found += [] if name in what else [(place, name, stepped(beneath, kind, what, depth + 1))]
        elif kind == "unwrap":
            lower = stepped(beneath, kind, what, depth + 1)
            found += lower if name in what else [(place, name, lower)]
        elif kind == "cut":
            found += [(place, name, stepped(beneath, kind, what, depth + 1))] if depth <= what else []
        else:
            found.append((place, dict(what).get(name, name), stepped(beneath, kind, what, depth + 1)))
    return found


def run(pipeline, trees):
    """What comes out of trees, tagged with the places where they stood."""
    rows = tagged(trees)
    for step in pipeline.steps:
        rows = stepped(rows, step.kind, step.what)
    return rows


def untagged(rows):
    """The TREEs without the tags."""
    return tuple([(name, untagged(beneath)) for _, name, beneath in rows])


def places_in(rows):
    """The set of the tags."""
    found = ()
    for place, _, beneath in rows:
        found += (place,) + places_in(beneath)
    return found


def keeps(pipeline, path):
    """Whether the last node of this path stays, step by step."""
    trees = ()
    for name in reversed(path):
        trees = ((name, trees),)
    return len(path) - 1 in places_in(run(pipeline, trees))


def seen_form(pipeline, names, most):
    """The FORM as it shows in single paths, for names told and rooms up to most."""
    labels = sorted(names) + [STRANGE]
    lasts = {}
    for label in labels:
        rows = run(pipeline, ((label, ()),))
        lasts[label] = rows[0][1] if rows else None
    left = [label for label in labels if lasts[label] is not None]
    if not left:
        return (), (False, 0)
    rooms = {}
    for label in labels:
        many = 0
        while many <= most and keeps(pipeline, (label,) * (many + 1) + (left[0],)):
            many += 1
        rooms[label] = many if many <= most else None
    rest = (lasts[STRANGE] is not None, rooms[STRANGE])
    rows = [(label, lasts[label], rooms[label]) for label in labels[:-1]]
    return tuple([row for row in rows if row[1:] != (row[0] if rest[0] else None, rest[1])]), rest


def high(room):
    """A room as a number, None as one that is greater than all that are handed in."""
    return ENDLESS if room is None else room


def stays_by_rooms(pipeline, path):
    """Whether the last node of a path stays, as the rooms tell."""
    rooms = sorted([high(pipeline.room(name)) for name in path[:-1]])
    return pipeline.final(path[-1]) is not None and all(room >= at for at, room in enumerate(rooms, 1))


def labels_told(*pipelines):
    """All NAMEs that the FORMs of these tell, and one that they do not tell."""
    told = {STRANGE}
    for pipeline in pipelines:
        for name, last, _ in pipeline.form[0]:
            told |= {name, last} - {None}
    return sorted(told)


def is_within(p, q):
    """The order, label by label."""
    for label in labels_told(p, q):
        if p.final(label) is not None and q.final(label) is None:
            return False
        if high(p.room(label)) > high(q.room(label)):
            return False
    return True


def valid_forms(names, rooms, lasts=None, rests=None):
    """All FORMs that tell nothing but these names, with these rooms; lasts: what names a label left can get."""
    found = {((), (False, 0))}
    ends = {name: [name] if lasts is None else lasts for name in names}
    for left, room in rests or [(True, room) for room in rooms] + [(False, room) for room in rooms]:
        kinds = [[(name, last, own) for last in [None] + ends[name] for own in rooms] for name in names]
        for rows in itertools.product(*kinds):
            inner = [own for _, last, own in rows if last is not None] + ([room] if left else [])
            outer = [own for _, last, own in rows if last is None] + ([] if left else [room])
            if not inner or len(set(inner)) > 1:
                continue
            if any(own != 0 and high(own) < max(1, high(inner[0])) for own in outer):
                continue
            found.add((tuple([row for row in rows if row[1:] != (row[0] if left else None, room)]), (left, room)))
    return sorted(found, key=repr)


def drawn_forest(random, most, letters):
    """A Forest of up to so many nodes with these NAMEs, wide or deep."""
    depths = []
    deep = random.random()
    for _ in range(random.randint(0, most)):
        last = depths[-1] if depths else 0
        depths.append(last + 1 if random.random() < deep else random.randint(1, last + 1))
    rows = [(depth, random.choice(letters)) for depth in depths]
    return Forest(nested(rows, 1))


def nested(rows, depth):
    trees = []
    for at, (own, name) in enumerate(rows):
        if own == depth:
            ends = [other for other in range(at + 1, len(rows)) if rows[other][0] <= depth]
            trees.append((name, nested(rows[at + 1:ends[0] if ends else len(rows)], depth + 1)))
    return tuple(trees)


def drawn_step(random, letters, most):
    kind = random.choice(["drop", "unwrap", "unwrap", "cut", "cut", "rename"])
    if kind == "cut":
        return Step(kind, random.randint(1, most))
    if kind == "rename":
        firsts = random.sample(letters, random.randint(0, min(3, len(letters))))
        return Step(kind, [(first, random.choice(letters)) for first in firsts])
    # Seldom with the rest: mostly something is to be left.
    names = random.sample(letters, random.randint(1, 2 if random.random() < 0.8 else len(letters)))
    return Step(kind, Labels(names, random.random() < 0.15))


def drawn_pipeline(random, letters, steps=6, most=5):
    return Pipeline([drawn_step(random, letters, most) for _ in range(random.randint(0, steps))])


def short_paths(labels, most):
    """All paths of these labels, of up to so many nodes, with at most two unlike labels."""
    for size in range(1, most + 1):
        for pair in itertools.combinations(labels, min(2, len(labels))):
            yield from itertools.product(pair, repeat=size)


def many_steps(seed):
    """Forty steps that tell forty NAMEs."""
    names = [first + second for first in "abcde" for second in "abcdefgh"]
    names = names[seed:] + names[:seed]
    steps = []
    for at in range(0, 40, 4):
        ring = names[at:at + 4]
        steps.append(Step("rename", list(zip(ring, ring[1:] + ring[:1]))))
        steps.append(Step("cut", 10 ** 40 - at))
        steps.append(Step("unwrap", Labels([names[at]])))
        steps.append(Step("drop", Labels([names[at + 1]])))
    return names, Pipeline(steps)
