"""The desk: a book and shelves by names, told rows as text."""

from sortlore.beside import beside
from sortlore.books import Book, is_name
from sortlore.errors import NoDeed, NoName, Twice
from sortlore.finds import found_in
from sortlore.going import compare
from sortlore.keys import key
from sortlore.shelves import Shelf

# For each row's first word, what the words behind it are; NEW is the name of a shelf that is not there yet.
FORMS = {
    "tell": ("LINE",),
    "open": ("NEW", "NAME"),
    "put": ("SHELF", "TEXT"),
    "drop": ("SHELF", "TEXT"),
    "show": ("SHELF",),
    "alike": ("SHELF", "STRENGTH", "TEXT"),
    "begins": ("SHELF", "TEXT"),
    "letters": ("NAME",),
    "key": ("NAME", "STRENGTH", "TEXT"),
    "compare": ("NAME", "STRENGTH", "ONE", "TEXT"),
    "find": ("NAME", "STRENGTH", "ONE", "TEXT"),
    "beside": ("NAME", "OTHER", "STRENGTH", "SIGNS"),
}
# What is all that follows, blanks and all.
WHOLE = ("LINE", "TEXT")
# What may be without signs.
EMPTY = ("LINE", "TEXT", "ONE", "SIGNS")
STRENGTHS = ("1", "2", "3", "4")
ORDERS = ("NAME", "OTHER")
# What comparing tells, from -1 to 1, in words.
GOING = ("before", "alike", "behind")


def is_word(place, word):
    """Whether a word may stand at a place of a row, whether or not it names something."""
    if place == "STRENGTH":
        return word in STRENGTHS
    return word != "" or place in EMPTY


def read_row(row):
    """The words of a row by their places, the first one by DEED, or NoDeed."""
    if not isinstance(row, str):
        raise NoDeed("what is no text is no row")
    deed = row.split(" ")[0]
    if deed not in FORMS:
        raise NoDeed(f"no row begins with {deed!r}")
    places = ("DEED",) + FORMS[deed]
    words = row.split(" ", len(FORMS[deed])) if places[-1] in WHOLE else row.split(" ")
    if len(words) != len(places) or not all([is_word(place, word) for place, word in zip(places, words)]):
        raise NoDeed(f"{row!r} is misspelt")
    return dict(zip(places, words))


def shown(numbers):
    """Numbers with a blank between each two."""
    return " ".join([str(number) for number in numbers])


def shelf_deed(shelf, said):
    """Does and answers what is said of a shelf."""
    deed = said["DEED"]
    if deed == "put":
        shelf.put(said["TEXT"])
        return "ok"
    if deed == "drop":
        shelf.drop(said["TEXT"])
        return "ok"
    if deed == "show":
        return "\n".join(shelf.texts())
    if deed == "alike":
        return shown(shelf.alike(said["TEXT"], int(said["STRENGTH"])))
    return shown(shelf.begins(said["TEXT"]))


def order_deed(orders, said):
    """Answers what is asked of one order or two."""
    deed = said["DEED"]
    order = orders[0]
    if deed == "letters":
        return " ".join(order.letters())
    strength = int(said["STRENGTH"])
    if deed == "key":
        return shown(key(order, said["TEXT"], strength))
    if deed == "compare":
        return GOING[compare(order, said["ONE"], said["TEXT"], strength) + 1]
    if deed == "find":
        found = found_in(order, said["ONE"], said["TEXT"], strength)
        return " ".join([f"{first}-{end}" for first, end in found])
    pair = beside(order, orders[1], list(said["SIGNS"]), strength)[0]
    return "never" if pair is None else " ".join(pair)


class Desk:
    """A book and shelves by names."""

    def __init__(self):
        self.book = Book("")
        self.shelves = {}

    def say(self, row):
        """Does what a row tells, and answers it with a text; or refuses it, and changes nothing."""
        said = read_row(row)
        for place in said:
            self.check_name(place, said[place])
        orders = [self.book.order_of(said[place]) for place in ORDERS if place in said]
        if said["DEED"] == "tell":
            self.book.tell(said["LINE"])
            return "ok"
        if said["DEED"] == "open":
            self.shelves[said["NEW"]] = Shelf(orders[0])
            return "ok"
        if "SHELF" in said:
            return shelf_deed(self.shelves[said["SHELF"]], said)
        return order_deed(orders, said)

    def check_name(self, place, word):
        """Refuses with NoName or Twice a word that is not the name that its place needs."""
        if place == "NEW":
            if not is_name(word):
                raise NoName(word)
            if word in self.shelves:
                raise Twice(word)
        if place == "SHELF" and word not in self.shelves:
            raise NoName(word)
        if place in ORDERS and word not in self.book.names():
            raise NoName(word)
