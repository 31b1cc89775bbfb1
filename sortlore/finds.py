"""Where one text is found in another."""

from sortlore.pieces import starts
from sortlore.units import add_part, parts_of, units


def is_joint(order, parts, at):
    """Whether a joint lies ahead of the part of this number, or at the end for the number of all parts."""
    return at == 0 or at == len(parts) or order.job(parts[at]) != "mark"


def joints(order, text):
    """The places where the parts begin that are no marks, and 0 and the text's length, or NoSign."""
    parts = parts_of(order, text)
    return [place for at, place in enumerate(starts(parts)) if is_joint(order, parts, at)]


def seen(unit, strength):
    """What of an element is looked at, at a strength."""
    return (unit[0], unit[1], tuple(unit[2]), unit[3])[:strength + 1]


def count_alike(made, wanted, strength, count):
    """How many elements, from the first on and without the last, are alike to the wanted ones.

    So many as count tells are known to be.
    """
    most = min(len(made) - 1, len(wanted))
    while count < most and seen(made[count], strength) == wanted[count]:
        count += 1
    return count


def ends_from(order, parts, first, wanted, strength):
    """The numbers of parts ahead of which a place ends that begins at the first and makes what is wanted."""
    ends = []
    made = []
    alike = 0
    for at in range(first, len(parts) + 1):
        # Marks further on are added to the last element alone, so all ahead of it stay as they are.
        alike = count_alike(made, wanted, strength, alike)
        if alike < len(made) - 1:
            break
        last = [seen(unit, strength) for unit in made[-1:]]
        if len(made) == len(wanted) and last == wanted[-1:] and is_joint(order, parts, at):
            ends.append(at)
        if at < len(parts):
            add_part(order, made, parts[at])
    return ends


def found_in(order, one, other, strength=4):
    """All tuples (from, to) of two joints of the other between which it is alike to the one, or NoSign."""
    wanted = [seen(unit, strength) for unit in units(order, one)]
    parts = parts_of(order, other)
    places = starts(parts)
    found = []
    for first in range(len(places)):
        if is_joint(order, parts, first):
            for end in ends_from(order, parts, first, wanted, strength):
                found.append((places[first], places[end]))
    if strength < 4:
        return found
    return [place for place in found if other[place[0]:place[1]] == one]
