"""The parts of a text by an order, and the elements that they make."""

from sortlore.orders import FIGURES, MARK
from sortlore.pieces import cut, is_figure


def parts_of(order, text):
    """The parts of a text by all pieces of an order that have a job, or NoSign."""
    return cut(order.known(), text, order.figures)


def steps_by(order, part):
    """What a part of a text makes in turn: tuples (kind, worth or place, case)."""
    # An order that reads figures by worth has no piece with a figure in it.
    if order.figures and is_figure(part[0]):
        return ((FIGURES, int(part), 0),)
    return order.steps(part)


def add_mark(made, place):
    """Adds a mark to the last element, or to one of its own where there is none yet."""
    if not made:
        made.append((MARK, 0, [], 0))
    made[-1][2].append(place)


def add_part(order, made, part):
    """Adds what a part makes to the elements made ahead of it, whose marks are lists here."""
    for kind, worth, case in steps_by(order, part):
        if kind == MARK:
            add_mark(made, worth)
        else:
            made.append((kind, worth, [], case))


def units(order, text):
    """The elements of a text, each a tuple (kind, worth, marks, case), or NoSign."""
    made = []
    for part in parts_of(order, text):
        add_part(order, made, part)
    return [(kind, worth, tuple(marks), case) for kind, worth, marks, case in made]
