"""Sorted texts, and shelves that keep texts sorted."""

from sortlore.errors import NoText, Twice
from sortlore.keys import key, letters_of
from sortlore.units import parts_of


def sorted_texts(order, texts, strength=4):
    """The texts in their turn, alike ones as they were handed in, or NoSign."""
    return sorted(texts, key=lambda text: key(order, text, strength))


class Shelf:
    """Texts, each once, that are kept in the turn of an order."""

    def __init__(self, order):
        self.order = order
        # For each text its key at strength 4.
        self.kept = {}

    def put(self, text):
        """Puts a text, or refuses it with NoSign or Twice."""
        numbers = key(self.order, text)
        if text in self.kept:
            raise Twice(text)
        self.kept[text] = numbers

    def drop(self, text):
        """Drops a text, or refuses it with NoSign or NoText."""
        # What can't be cut is refused as such, though it can't be there either.
        parts_of(self.order, text)
        if text not in self.kept:
            raise NoText(f"{text!r} is not there")
        self.kept.pop(text)

    def texts(self):
        """All texts in their turn."""
        return sorted(self.kept, key=lambda text: self.kept[text])

    def alike(self, text, strength=4):
        """From where to where the texts stand that are alike to a text, or NoSign."""
        return self.stretch(key(self.order, text, strength))

    def begins(self, text):
        """From where to where the texts stand whose letters begin with a text's letters, or NoSign."""
        return self.stretch(letters_of(self.order, text))

    def stretch(self, numbers):
        """From where to where the texts stand whose keys begin with these numbers."""
        # A key that begins so is not less than they are, so it is counted on one side alone.
        before = len([held for held in self.kept.values() if held < numbers])
        those = len([held for held in self.kept.values() if held[:len(numbers)] == numbers])
        return (before, before + those)
