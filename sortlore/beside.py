"""Two orders laid beside one another: that they never part, or a shortest pair of texts at which they do."""

from sortlore.errors import NotPlain
from sortlore.orders import LETTER
from sortlore.rooms import START, differences, goes_on, is_otherwise, is_uneven


def is_plain(order, sign):
    """Whether a sign is a piece that counts as just one element."""
    # A mark makes no element of its own, and what is passed over or has no job makes nothing.
    return len([step for step in order.steps(sign) if step[0] == LETTER]) == 1


def check_plain(one, other, signs):
    """Refuses with NotPlain where texts of these signs are not cut sign by sign, each sign one element."""
    for sign in signs:
        if not is_plain(one, sign) or not is_plain(other, sign):
            raise NotPlain(sign)
    for first in signs:
        for second in signs:
            two = first + second
            if one.job(two) is not None or other.job(two) is not None:
                raise NotPlain(two)


def moves_by(one, other, signs, strength):
    """Each two signs, and how they differ in both orders."""
    moves = []
    for x in signs:
        for y in signs:
            moves.append((x, y, differences(one, other, x, y, strength)))
    return moves


def longer_by(sign, room, pair):
    """The pair with a sign more of the text that is before in this uneven room."""
    # So it stays before by level 1 in the one order, and is behind, as the longer one, in the other.
    if room[1] < 0:
        return (pair[0] + sign, pair[1])
    return (pair[0], pair[1] + sign)


def beside(one, other, signs, strength=4):
    """(None, rooms) where two orders never part, (pair, None) where they part at a shortest pair; or NotPlain."""
    check_plain(one, other, signs)
    moves = moves_by(one, other, signs, strength)
    pairs = {START: ("", "")}
    rooms = [START]
    at = 0
    # Rooms that are come to by fewer signs are gone on from first, so the first pair found is a shortest one.
    while at < len(rooms):
        room = rooms[at]
        at += 1
        pair = pairs[room]
        if is_uneven(room):
            return (longer_by(signs[0], room, pair), None)
        for x, y, apart in moves:
            further = goes_on(one, other, room, apart)
            if is_otherwise(further):
                return ((pair[0] + x, pair[1] + y), None)
            if further not in pairs:
                pairs[further] = (pair[0] + x, pair[1] + y)
                rooms.append(further)
    return (None, rooms)
