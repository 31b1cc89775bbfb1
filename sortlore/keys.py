"""Keys: lists of numbers that put texts as their order does."""

from sortlore.levels import first_level, fourth_level, second_level, third_level
from sortlore.units import units


def key(order, text, strength=4):
    """The key of a text, level by level up to the strength, or NoSign."""
    made = units(order, text)
    levels = [first_level(made), second_level(made, order.behind), third_level(made), fourth_level(text)]
    numbers = []
    for level in levels[:strength]:
        numbers.extend(level)
        numbers.append(0)
    return numbers


def letters_of(order, text):
    """The first level of a text's key without its 0, or NoSign."""
    return first_level(units(order, text))
