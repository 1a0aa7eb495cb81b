"""Things of all kinds for is_name and is_trees, and forests to go through."""

import itertools

PLAIN = [0, 1, -1, 10 ** 40, True, False, None, "", " ", "a", "zz", "abcdefgh", "abcdefghi", "A", "a1", "a b", "-", "*"]


def things():
    """Plain things, and lists and tuples of these, some of them lists and tuples in turn."""
    small = PLAIN + [(), [], ("a",), ["a"], ("a", ()), ["a", ()], ("a", []), (("a", ()),), [("a", ())], ((),), ([],)]
    pairs = [kind(pair) for pair in itertools.product(small, repeat=2) for kind in (tuple, list)]
    singles = [kind([thing]) for thing in small + pairs for kind in (tuple, list)]
    triples = [("a", (), ()), (("a", (), ()),), (("a", ()), ("b", ()), 3), (("a", ()), ("b", ()), "c")]
    return small + pairs + singles + triples


def shapes(many):
    """All forests of so many nodes, as tuples of trees without names: a tree is the tuple of those beneath."""
    if many == 0:
        return [()]
    found = []
    for first in range(many):
        for beneath, beside in itertools.product(shapes(first), shapes(many - 1 - first)):
            found.append((beneath,) + beside)
    return found


def named(shape, names):
    """The TREEs of this shape, with the names of the iterator."""
    rows = []
    for beneath in shape:
        name = next(names)
        rows.append((name, named(beneath, names)))
    return tuple(rows)


def all_trees(most, letters):
    """All tuples of TREEs of up to so many nodes with these NAMEs."""
    for many in range(most + 1):
        for shape in shapes(many):
            for names in itertools.product(letters, repeat=many):
                yield named(shape, iter(names))


def listed(value):
    """The value with lists for tuples, at any depth."""
    if isinstance(value, (list, tuple)):
        return [listed(part) for part in value]
    return value


def scrambled(value):
    """Changes each list in the value, at every depth."""
    for part in value:
        if isinstance(part, list):
            scrambled(part)
    value.reverse()
    value.append("changed")


def row_of(name, many):
    """TREEs with this NAME side by side, so many."""
    return ((name, ()),) * many


def path_of(names):
    """The TREEs of one path of these NAMEs."""
    trees = ()
    for name in reversed(names):
        trees = ((name, trees),)
    return trees
