"""The levels of a key, each without the 0 that closes it."""

from sortlore.orders import FIGURES, MARK


def first_numbers(kind, worth):
    """What one element puts into the first level."""
    if kind == MARK:
        return [1]
    if kind == FIGURES:
        return [2, worth + 1]
    return [worth + 3]


def first_level(made):
    """The kinds and worths of elements."""
    level = []
    for unit in made:
        level.extend(first_numbers(unit[0], unit[1]))
    return level


def second_level(made, behind):
    """The marks of elements; behind tells whether the last element comes first."""
    level = []
    for unit in made[::-1] if behind else made:
        level.extend([place + 2 for place in unit[2]])
        # An element's end is less than any mark, so fewer marks come before more.
        level.append(1)
    return level


def third_level(made):
    """The cases of elements."""
    return [unit[3] + 1 for unit in made]


def fourth_level(text):
    """The codes of a text's signs."""
    return [ord(sign) for sign in text]
