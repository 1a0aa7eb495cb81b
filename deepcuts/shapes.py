"""TREEs as two rows: the NAMEs of the nodes in the order of their places, and their depths.

Everything here goes without recursion, so that no depth is too great.
"""


def flat(trees):
    """The pair of rows (names, depths) of these TREEs."""
    names = []
    depths = []
    waiting = [(tree, 1) for tree in trees[::-1]]
    while waiting:
        tree, depth = waiting.pop()
        names.append(tree[0])
        depths.append(depth)
        for lower in tree[1][::-1]:
            waiting.append((lower, depth + 1))
    return tuple(names), tuple(depths)


def nested(names, depths):
    """The tuple of TREEs with these rows."""
    # From the last place back, so that all that stands beneath a node is built ahead of it.
    built = []
    for place in reversed(range(len(names))):
        lower = []
        while built and built[-1][0] > depths[place]:
            lower.append(built.pop()[1])
        built.append((depths[place], (names[place], tuple(lower))))
    return tuple([tree for _, tree in built[::-1]])


def written(names, depths):
    """The text of the TREEs with these rows."""
    if len(names) == 0:
        return "-"
    parts = [names[0]]
    for place in range(1, len(names)):
        parts.append(joint(depths[place - 1], depths[place]) + names[place])
    return "".join(parts) + ")" * (depths[-1] - 1)


def joint(before, now):
    """What a text has between nodes of these depths that are read one after another."""
    if now > before:
        return "("
    return ")" * (before - now) + " "


def read_rows(text):
    """The rows of a text that is written by `written`; of any other text some rows."""
    names = []
    depths = []
    depth = 1
    for word in text.replace("(", " ( ").replace(")", " ) ").split(" "):
        if word == "(":
            depth = depth + 1
        elif word == ")":
            depth = depth - 1
        elif word != "":
            names.append(word)
            depths.append(depth)
    return names, depths
