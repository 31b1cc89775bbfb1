"""Rooms: how two texts stand in two orders, when both have come equally far.

A room is a tuple (level, sign, level, sign), two numbers for each order.
"""

from sortlore.going import compare

# Nothing differs yet.
START = (0, 0, 0, 0)


def difference(order, x, y, strength=4):
    """The least strength at which two signs are not alike, and what comparing tells there, or (0, 0); or NoSign."""
    for level in range(1, strength + 1):
        sign = compare(order, x, y, level)
        if sign != 0:
            return (level, sign)
    return (0, 0)


def differences(one, other, x, y, strength=4):
    """How two signs differ in each of two orders: a tuple of four, by which a room goes on."""
    return difference(one, x, y, strength) + difference(other, x, y, strength)


def stands(order, so_far, apart):
    """An order's two numbers of a room, behind two signs more that differ so."""
    if apart[0] == 0:
        return so_far
    if so_far[0] == 0 or so_far[0] > apart[0]:
        return apart
    # From behind, later marks decide ahead of those that came before.
    if so_far[0] == apart[0] and apart[0] == 2 and order.behind:
        return apart
    return so_far


def goes_on(one, other, room, apart):
    """The room to which a room goes on by two signs with these differences."""
    return stands(one, room[:2], apart[:2]) + stands(other, room[2:], apart[2:])


def is_otherwise(room):
    """Whether the two orders would put the two texts otherwise, if they ended here."""
    return room[1] != room[3]


def is_uneven(room):
    """Whether level 1 decides in one order alone, so that a text that goes on alone is put otherwise."""
    return (room[0] == 1) != (room[2] == 1)


def is_parted(room):
    """Whether the two orders part in this room, or with a sign more of one text."""
    return is_otherwise(room) or is_uneven(room)
