"""Pieces, and texts that are cut by them."""

from sortlore.errors import NoSign

# The code of the one sign between the first and the last that stands in no piece.
PER_CENT = 37


def is_sign(sign):
    """Whether this one sign may stand in a piece."""
    return "!" <= sign <= "~" and ord(sign) != PER_CENT


def is_piece(thing):
    """Whether this thing, of whatever kind, is a piece."""
    if not isinstance(thing, str):
        return False
    return 1 <= len(thing) <= 2 and all([is_sign(sign) for sign in thing])


def is_figure(sign):
    """Whether this one sign is a figure."""
    return "0" <= sign <= "9"


def figures_at(text, at):
    """The figures that stand side by side from a place on."""
    end = at
    while end < len(text) and is_figure(text[end]):
        end += 1
    return text[at:end]


def part_at(known, text, at, figures):
    """The part that begins at a place, or NoSign; known is a dict here."""
    if figures and is_figure(text[at]):
        return figures_at(text, at)
    two = text[at:at + 2]
    if two in known:
        return two
    if text[at] in known:
        return text[at]
    raise NoSign(at)


def cut(known, text, figures=False):
    """The parts of a text by a list of known pieces."""
    # A dict is asked for a piece without walking the list each time.
    pieces = dict([(piece, True) for piece in known])
    parts = []
    at = 0
    while at < len(text):
        part = part_at(pieces, text, at, figures)
        parts.append(part)
        at += len(part)
    return parts


def starts(parts):
    """Where each of the parts begins, and where the last one ends."""
    places = [0]
    for part in parts:
        places.append(places[-1] + len(part))
    return places
