"""The plain going: two texts compared by their elements, level by level."""

from sortlore.units import units


def looks(order, text):
    """What is looked at, level by level: kinds and worths, marks, cases, and the text itself; or NoSign."""
    made = units(order, text)
    marks = [unit[2] for unit in made]
    if order.behind:
        marks.reverse()
    return [[unit[:2] for unit in made], marks, [unit[3] for unit in made], text]


def compare(order, one, other, strength=4):
    """-1 where the one text is before the other, 0 where they are alike, 1 where it is behind; or NoSign."""
    # Both are looked at whole ahead of all else, as each is refused wherever the answer may lie.
    ours = looks(order, one)
    theirs = looks(order, other)
    for level in range(strength):
        if ours[level] != theirs[level]:
            return -1 if ours[level] < theirs[level] else 1
    return 0
