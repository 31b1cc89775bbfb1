"""Point 3: what is promised over the whole program, for orders that come of a book."""

import functools
import itertools
import unittest

from sortlore.beside import beside
from sortlore.books import Book
from sortlore.changes import change, kept_most
from sortlore.desk import Desk
from sortlore.errors import Round
from sortlore.finds import found_in, joints
from sortlore.going import compare
from sortlore.keys import key, letters_of
from sortlore.orders import Order
from sortlore.rules import changed, show_rule
from sortlore.shelves import Shelf, sorted_texts

LINES = ["order young of old", "forget b m", "row c b", "great c C", "behind",
         "order old of base", "marks ' `", "as m a '", "blanks",
         "order base", "row a b c", "row c ch", "great a A", "over -", "figures",
         "order youngest of young", "forget c", "row ch c b", "as w a ' b"]
NAMES = ["base", "old", "young", "youngest"]
# Of each order some pieces, of which texts are made.
PIECES = {"base": ["a", "A", "b", "ch", "-", "7"], "old": ["a", "b", "'", "`", "m", " "],
          "young": ["a", "c", "C", "'", "ch", "-"], "youngest": ["a", "b", "'", "w", "ch", "`"]}
STRENGTHS = (1, 2, 3, 4)


def texts_of(name):
    """All texts of at most two of an order's pieces, and some of three."""
    pieces = PIECES[name]
    few = {"".join(text) for size in range(3) for text in itertools.product(pieces, repeat=size)}
    more = {"".join(text) for text in itertools.product(pieces, repeat=3)}
    return sorted(few | set(sorted(more)[::9]))


class Whole(unittest.TestCase):
    @classmethod
    def setUpClass(cls):
        book = Book("\n".join(LINES))
        cls.orders = {name: book.order_of(name) for name in NAMES}
        cls.texts = {name: texts_of(name) for name in NAMES}

    def each(self):
        for name in NAMES:
            for strength in STRENGTHS:
                yield self.orders[name], self.texts[name], strength

    def test_the_orders_are_four(self):
        self.assertEqual([self.orders[name].letters() for name in NAMES],
                         [["a", "b", "c", "ch"], ["a", "b", "c", "ch"], ["a", "c", "ch", "b"], ["a", "ch", "c", "b"]])

    def test_keys_put_texts_as_comparing_does(self):
        for order, texts, strength in self.each():
            keys = {text: key(order, text, strength) for text in texts}
            for one, other in itertools.product(texts, repeat=2):
                wanted = (keys[one] > keys[other]) - (keys[one] < keys[other])
                self.assertEqual(compare(order, one, other, strength), wanted, (one, other, strength))

    def test_a_whole_order_of_all_texts(self):
        for name in NAMES:
            order, texts = self.orders[name], self.texts[name]
            line = sorted(texts, key=functools.cmp_to_key(lambda one, other: compare(order, one, other)))
            places = {text: at for at, text in enumerate(line)}
            for one, other in itertools.product(texts, repeat=2):
                wanted = (places[one] > places[other]) - (places[one] < places[other])
                self.assertEqual(compare(order, one, other), wanted)

    def test_alike_at_each_lower_strength(self):
        for name in NAMES:
            for one, other in itertools.product(self.texts[name], repeat=2):
                told = [compare(self.orders[name], one, other, strength) for strength in STRENGTHS]
                differ = [number for number in told if number]
                self.assertEqual(told, [0] * (4 - len(differ)) + differ)
                self.assertLessEqual(len(set(differ)), 1)

    def test_a_row_of_sorted_texts_has_them_in_one_stretch(self):
        for order, texts, strength in self.each():
            line = sorted_texts(order, texts)
            shelf = Shelf(order)
            for text in texts:
                shelf.put(text)
            self.assertEqual(shelf.texts(), line)
            for text in texts[::7]:
                first, end = shelf.alike(text, strength)
                alike = [other for other in line if compare(order, other, text, strength) == 0]
                self.assertEqual(line[first:end], alike)
                first, end = shelf.begins(text)
                letters = letters_of(order, text)
                begin = [other for other in line if letters_of(order, other)[:len(letters)] == letters]
                self.assertEqual(line[first:end], begin)

    def test_finding_tells_all_places_and_no_others(self):
        for order, texts, strength in self.each():
            for one, other in zip(texts[::5], texts[::-3]):
                places = itertools.combinations_with_replacement(joints(order, other), 2)
                wanted = [(x, y) for x, y in places if compare(order, other[x:y], one, strength) == 0]
                self.assertEqual(found_in(order, one, other, strength), wanted)

    def test_rules_that_can_t_be_one_order(self):
        book = Book("\n".join([*LINES, "order bad of young", "row b a", "row ch c"]))
        with self.assertRaises(Round) as caught:
            book.order_of("bad")
        self.assertEqual(sorted(caught.exception.pieces), ["c", "ch"])
        book = Book("\n".join([*LINES, "order bad of young", "row b a"]))
        with self.assertRaises(Round) as caught:
            book.order_of("bad")
        self.assertEqual(sorted(caught.exception.pieces), ["a", "b", "c"])

    def test_two_orders_part_or_never_do(self):
        texts = ["".join(text) for size in range(4) for text in itertools.product("abcA", repeat=size)]
        for one, other, strength in itertools.product(NAMES, NAMES, STRENGTHS):
            orders = (self.orders[one], self.orders[other])
            pair, rooms = beside(*orders, ["a", "b", "c", "A"], strength)
            self.assertNotEqual(pair is None, rooms is None)
            parted = self.letters_of_signs(one) != self.letters_of_signs(other)
            self.assertEqual(pair is not None, parted)
            if parted:
                self.assertNotEqual(compare(orders[0], *pair, strength), compare(orders[1], *pair, strength))
            else:
                for x, y in zip(texts, texts[::-1]):
                    self.assertEqual(compare(orders[0], x, y, strength), compare(orders[1], x, y, strength))

    def letters_of_signs(self, name):
        return [letter for letter in self.orders[name].letters() if len(letter) == 1]

    def test_the_fewest_letters_are_moved(self):
        book = Book("\n".join(LINES))
        for name in NAMES:
            letters = self.orders[name].letters()
            for wanted in itertools.permutations(letters):
                rules = change(letters, list(wanted))
                order = Order(changed(book.rules_of(name), rules))
                self.assertEqual(order.letters(), list(wanted))
                self.assertEqual(order.marks(), self.orders[name].marks())
                kept, groups = kept_most(letters, list(wanted))
                self.assertEqual(len(kept), len(groups))
                moved = len(rules[0]) - 1 if rules else 0
                self.assertEqual(moved, len(letters) - len(kept))

    def test_a_change_told_as_lines_of_a_younger_order(self):
        desk = Desk()
        for line in [*LINES, "order turned of youngest"]:
            desk.say("tell " + line)
        elder, wanted = self.orders["youngest"].letters(), ["b", "ch", "a", "c"]
        for rule in change(elder, wanted):
            desk.say("tell " + show_rule(rule))
        self.assertEqual(desk.say("letters turned"), "b ch a c")
        self.assertEqual(desk.say("letters youngest"), "a ch c b")
        self.assertEqual(desk.say("compare turned 3 A a"), "behind")

    def test_an_order_of_a_book_is_that_of_its_rules(self):
        book = Book("\n".join(LINES))
        for order, texts, strength in self.each():
            name = [name for name in NAMES if self.orders[name] == order][0]
            same = Order(book.rules_of(name))
            self.assertEqual(sorted_texts(same, texts, strength), sorted_texts(order, texts, strength))


if __name__ == "__main__":
    unittest.main()
