"""Points 21 to 23: sorted texts, and shelves that keep texts sorted."""

import inspect
import itertools
import unittest

from sortlore.errors import LoreError, NoSign, NoText, Twice
from sortlore.going import compare
from sortlore.keys import letters_of
from sortlore.orders import Order
from sortlore.rules import read_rule
from sortlore.shelves import Shelf, sorted_texts

LINES = ["row a b", "marks ' `", "great a A AA", "as x b `", "as y a b", "over -", "blanks", "figures"]
SIGNS = "abA'x- 01"


def order_of(*lines):
    return Order([read_rule(line) for line in lines])


def texts_of(signs, size):
    """All texts of these signs up to a length."""
    return ["".join(text) for length in range(size + 1) for text in itertools.product(signs, repeat=length)]


def shelf_of(order, texts):
    shelf = Shelf(order)
    for text in texts:
        shelf.put(text)
    return shelf


def plainly_sorted(order, texts, strength):
    """Each text is set in behind the last one that is not behind it."""
    line = []
    for text in texts:
        at = len(line)
        while at > 0 and compare(order, line[at - 1], text, strength) == 1:
            at -= 1
        line.insert(at, text)
    return line


class Sorted(unittest.TestCase):
    def test_at_strength_4(self):
        order = order_of(*LINES)
        rising = ["", " ", "-", "'", "'a", "0", "00", "9", "10", "a", "a-", "A", "AA", "a'", "a`", "ab", "y", "b", "b`",
                  "x", "ba"]
        for texts in (rising, rising[::-1], rising[10:] + rising[:10], rising[::2] + rising[1::2]):
            self.assertEqual(sorted_texts(order, texts, 4), rising)
            self.assertEqual(sorted_texts(order, texts), rising)

    def test_alike_ones_stay_as_they_were_handed_in(self):
        order = order_of(*LINES)
        texts = ["b", "A'", "a-", "a`", "a", "AA", "A", "-", "x", "", "a'"]
        self.assertEqual(sorted_texts(order, texts, 1),
                         ["-", "", "A'", "a-", "a`", "a", "AA", "A", "a'", "b", "x"])
        self.assertEqual(sorted_texts(order, texts, 2),
                         ["-", "", "a-", "a", "AA", "A", "A'", "a'", "a`", "b", "x"])
        self.assertEqual(sorted_texts(order, texts, 3),
                         ["-", "", "a-", "a", "A", "AA", "a'", "A'", "a`", "b", "x"])
        self.assertEqual(sorted_texts(order, texts, 4),
                         ["", "-", "a", "a-", "A", "AA", "a'", "A'", "a`", "b", "x"])

    def test_the_other_way_handed_in(self):
        order = order_of(*LINES)
        for strength, texts in ((1, ["a", "A"]), (2, ["a", "A"]), (3, ["a", "a-"]), (1, ["a'", "a`"])):
            self.assertEqual(sorted_texts(order, texts, strength), texts)
            self.assertEqual(sorted_texts(order, texts[::-1], strength), texts[::-1])

    def test_equal_ones_are_all_there(self):
        order = order_of("row a b", "over -")
        self.assertEqual(sorted_texts(order, ["b", "a", "b", "", "a", "b"]), ["", "a", "a", "b", "b", "b"])
        self.assertEqual(sorted_texts(order, ["a-", "b", "a", "a-"], 1), ["a-", "a", "a-", "b"])

    def test_by_comparing(self):
        for lines in (LINES, LINES + ["behind"]):
            order = order_of(*lines)
            texts = texts_of("aA'`-", 3)
            # Stepping through by a number without a divisor in common mixes them.
            mixed = [texts[at * 67 % len(texts)] for at in range(len(texts))]
            for strength in (1, 2, 3, 4):
                self.assertEqual(sorted_texts(order, mixed, strength), plainly_sorted(order, mixed, strength))

    def test_no_texts_and_one(self):
        order = order_of("row a")
        for strength in (1, 2, 3, 4):
            self.assertEqual(sorted_texts(order, [], strength), [])
            self.assertEqual(sorted_texts(order, ["a"], strength), ["a"])
            self.assertEqual(sorted_texts(order, [""], strength), [""])
        self.assertEqual(sorted_texts(order_of(), []), [])

    def test_what_is_handed_in_stays(self):
        order = order_of("row a b")
        texts = ["b", "a", "ab"]
        got = sorted_texts(order, texts)
        self.assertEqual(texts, ["b", "a", "ab"])
        self.assertIs(type(got), list)
        self.assertIsNot(got, texts)
        texts.append("aa")
        self.assertEqual(got, ["a", "ab", "b"])
        for rising in ([], ["a"], ["a", "b"]):
            told = sorted_texts(order, rising)
            told.append("z")
            self.assertNotIn("z", rising)

    def refused(self, order, texts, at):
        for strength in (1, 2, 3, 4):
            with self.assertRaises(NoSign, msg=(texts, strength)) as caught:
                sorted_texts(order, texts, strength)
            self.assertEqual(caught.exception.at, at, texts)
        self.assertRaises(NoSign, sorted_texts, order, texts)

    def test_the_first_that_cannot_be_cut(self):
        order = order_of("row a b", "over -")
        self.refused(order, ["b", "aa?", "a?", "?"], 2)
        self.refused(order, ["b", "?", "a?", "aa?"], 0)
        self.refused(order, ["a?", "b?b"], 1)
        self.refused(order, ["a"] * 5 + ["bb--?"] + ["a?"] * 2, 4)
        self.refused(order, ["b", "a", "ab?"], 2)

    def test_one_that_stands_alone_and_cannot_be_cut(self):
        self.refused(order_of("row a"), ["a?"], 1)
        self.refused(order_of(), ["a"], 0)

    def test_many_texts(self):
        order = order_of(*LINES)
        texts = texts_of("abA'-1", 3)[:300]
        self.assertEqual(sorted_texts(order, texts[::-1]), plainly_sorted(order, texts, 4))

    def test_the_interface(self):
        self.assertEqual(str(inspect.signature(sorted_texts)), "(order, texts, strength=4)")


class Kept(unittest.TestCase):
    def test_put_and_dropped(self):
        shelf = Shelf(order_of("row c a b", "great a A"))
        self.assertEqual(shelf.texts(), [])
        self.assertIsNone(shelf.put("b"))
        self.assertIsNone(shelf.put("c"))
        self.assertIsNone(shelf.put("A"))
        self.assertIsNone(shelf.put("a"))
        self.assertEqual(shelf.texts(), ["c", "a", "A", "b"])
        self.assertIsNone(shelf.drop("a"))
        self.assertEqual(shelf.texts(), ["c", "A", "b"])
        shelf.put("a")
        self.assertEqual(shelf.texts(), ["c", "a", "A", "b"])
        for text in ["b", "c", "A", "a"]:
            shelf.drop(text)
        self.assertEqual(shelf.texts(), [])
        shelf.put("c")
        self.assertEqual(shelf.texts(), ["c"])

    def test_the_text_without_signs(self):
        shelf = Shelf(order_of())
        self.assertRaises(NoText, shelf.drop, "")
        shelf.put("")
        self.assertEqual(shelf.texts(), [""])
        self.assertRaises(Twice, shelf.put, "")
        shelf.drop("")
        self.assertEqual(shelf.texts(), [])

    def test_texts_that_are_alike_below_strength_4_stand_beside_one_another(self):
        shelf = shelf_of(order_of("row a", "over -", "great a A", "marks '"), ["a-", "-a", "a", "A", "a'"])
        self.assertEqual(shelf.texts(), ["-a", "a", "a-", "A", "a'"])

    def test_in_whatever_turn_they_are_put(self):
        order = order_of(*LINES)
        texts = ["", "a", "a-", "A'", "b", "9", "10"]
        for turn in itertools.permutations(texts):
            self.assertEqual(shelf_of(order, turn).texts(), ["", "9", "10", "a", "a-", "A'", "b"])

    def test_at_each_step(self):
        for lines in (LINES, LINES + ["behind"]):
            order = order_of(*lines)
            texts = texts_of("aA'`-", 2)
            shelf, there = Shelf(order), []
            for at in range(2 * len(texts)):
                text = texts[at * 7 % len(texts)]
                if text in there:
                    shelf.drop(text)
                    there.remove(text)
                else:
                    shelf.put(text)
                    there.append(text)
                self.assertEqual(shelf.texts(), plainly_sorted(order, there, 4))

    def test_twice(self):
        shelf = shelf_of(order_of("row a b"), ["b", "a"])
        for text in ["a", "b"]:
            with self.assertRaises(Twice) as caught:
                shelf.put(text)
            self.assertEqual(caught.exception.name, text)
            self.assertIsInstance(caught.exception, LoreError)
            self.assertEqual(shelf.texts(), ["a", "b"])
        shelf.drop("a")
        self.assertEqual(shelf.texts(), ["b"])
        self.assertRaises(NoText, shelf.drop, "a")

    def test_no_text(self):
        shelf = Shelf(order_of("row a b", "over -"))
        self.assertRaises(NoText, shelf.drop, "a")
        shelf.put("a")
        for text in ["b", "", "aa", "a-", "-a"]:
            self.assertRaises(NoText, shelf.drop, text)
            self.assertEqual(shelf.texts(), ["a"])
        shelf.drop("a")
        self.assertRaises(NoText, shelf.drop, "a")
        self.assertEqual(shelf.texts(), [])

    def test_no_sign_ahead_of_both(self):
        shelf = Shelf(order_of("row a b"))
        for put in ([], ["a", "ab"]):
            for text in put:
                shelf.put(text)
            before = shelf.texts()
            for text, at in (("a?", 1), ("?", 0), ("ab?", 2), ("abab ", 4)):
                for asked in (shelf.put, shelf.drop):
                    with self.assertRaises(NoSign) as caught:
                        asked(text)
                    self.assertEqual(caught.exception.at, at)
                    self.assertEqual(shelf.texts(), before)

    def test_what_is_refused_changes_nothing(self):
        order = order_of("row a b", "over -")
        shelf = shelf_of(order, ["b", "a", "a-"])
        for asked, text, error in ((shelf.put, "a", Twice), (shelf.drop, "ab", NoText), (shelf.put, "c", NoSign),
                                   (shelf.drop, "c", NoSign)):
            self.assertRaises(error, asked, text)
            self.assertEqual(shelf.texts(), ["a", "a-", "b"])
            self.assertEqual(shelf.alike("a", 1), (0, 2))
            self.assertEqual(shelf.alike("ab", 1), (2, 2))
            self.assertEqual(shelf.begins(""), (0, 3))
        shelf.put("ab")
        self.assertEqual(shelf.texts(), ["a", "a-", "ab", "b"])

    def test_two_shelves_by_one_order(self):
        order = order_of("row a b")
        one, other = Shelf(order), Shelf(order)
        one.put("a")
        self.assertEqual(other.texts(), [])
        self.assertRaises(NoText, other.drop, "a")
        other.put("a")
        other.put("b")
        self.assertEqual((one.texts(), other.texts()), (["a"], ["a", "b"]))
        other.drop("a")
        self.assertEqual((one.texts(), other.texts()), (["a"], ["b"]))
        self.assertEqual((one.alike("a"), other.alike("a")), ((0, 1), (0, 0)))

    def test_two_shelves_by_two_orders(self):
        one, other = Shelf(order_of("row a b")), Shelf(order_of("row b a", "over -"))
        for text in ["a", "b", "ab"]:
            one.put(text)
            other.put(text)
        other.put("-")
        self.assertRaises(NoSign, one.put, "-")
        self.assertEqual((one.texts(), other.texts()), (["a", "ab", "b"], ["-", "b", "a", "ab"]))

    def test_a_told_list_is_the_askers_own(self):
        shelf = shelf_of(order_of("row a b"), ["b", "a"])
        told = shelf.texts()
        self.assertIs(type(told), list)
        told.append("ab")
        told.reverse()
        self.assertEqual(shelf.texts(), ["a", "b"])
        self.assertEqual(shelf.begins("a"), (0, 1))
        shelf.put("ab")
        self.assertEqual(shelf.texts(), ["a", "ab", "b"])
        kept = shelf.texts()
        shelf.drop("a")
        shelf.put("bb")
        self.assertEqual(kept, ["a", "ab", "b"])
        self.assertEqual(told, ["ab", "b", "a"])

    def test_rules_that_are_changed_behind_change_nothing(self):
        rules = [("row", "a", "b")]
        shelf = Shelf(Order(rules))
        shelf.put("b")
        rules[0] = ("row", "b", "a")
        shelf.put("a")
        self.assertEqual(shelf.texts(), ["a", "b"])

    def test_the_interface(self):
        for name, wanted in (("put", "(self, text)"), ("drop", "(self, text)"), ("texts", "(self)"),
                             ("alike", "(self, text, strength=4)"), ("begins", "(self, text)")):
            self.assertEqual(str(inspect.signature(getattr(Shelf, name))), wanted)
        self.assertEqual(str(inspect.signature(Shelf)), "(order)")


class Stretches(unittest.TestCase):
    def check_alike(self, order, shelf, text, strength):
        """Point 23's own words, by comparing."""
        texts = shelf.texts()
        told = [compare(order, other, text, strength) for other in texts]
        before, alike = told.count(-1), told.count(0)
        got = shelf.alike(text, strength)
        self.assertEqual(got, (before, before + alike), (text, strength))
        self.assertEqual(texts[got[0]:got[1]], [other for other, number in zip(texts, told) if number == 0])
        self.assertIs(type(got), tuple)
        self.assertEqual([type(number) for number in got], [int, int])

    def check_begins(self, order, shelf, text):
        texts = shelf.texts()
        letters = letters_of(order, text)
        told = [letters_of(order, other) for other in texts]
        before = len([line for line in told if line < letters])
        those = [other for other, line in zip(texts, told) if line[:len(letters)] == letters]
        got = shelf.begins(text)
        self.assertEqual(got, (before, before + len(those)), text)
        self.assertEqual(texts[got[0]:got[1]], those)
        self.assertIs(type(got), tuple)
        self.assertEqual([type(number) for number in got], [int, int])

    def test_alike_at_each_strength(self):
        shelf = shelf_of(order_of("row a b c", "great b B", "marks '", "over -"),
                         ["a", "b", "-b", "b-", "B", "B'", "b'", "c", "bb"])
        self.assertEqual(shelf.texts(), ["a", "-b", "b", "b-", "B", "b'", "B'", "bb", "c"])
        for text, wanted in (("b", [(1, 7), (1, 5), (1, 4), (2, 3)]), ("B", [(1, 7), (1, 5), (4, 5), (4, 5)]),
                             ("b'", [(1, 7), (5, 7), (5, 6), (5, 6)]), ("a", [(0, 1)] * 4), ("c", [(8, 9)] * 4),
                             ("", [(0, 0)] * 4), ("cc", [(9, 9)] * 4), ("--b", [(1, 7), (1, 5), (1, 4), (1, 1)]),
                             ("bbb", [(8, 8)] * 4), ("bB", [(7, 8), (7, 8), (8, 8), (8, 8)]),
                             ("b''", [(1, 7), (7, 7), (7, 7), (7, 7)])):
            self.assertEqual([shelf.alike(text, strength) for strength in (1, 2, 3, 4)], wanted, text)
            self.assertEqual(shelf.alike(text), wanted[3], text)
            self.assertEqual(shelf.alike(text, strength=2), wanted[1], text)

    def test_begins(self):
        shelf = shelf_of(order_of("row a b c", "great b B", "marks '", "over -", "figures"),
                         ["", "-", "'", "'b", "1", "12", "1b", "a", "b", "B'c", "b-a", "bca", "cb"])
        self.assertEqual(shelf.texts(), ["", "-", "'", "'b", "1", "1b", "12", "a", "b", "b-a", "B'c", "bca", "cb"])
        for text, wanted in (("", (0, 13)), ("-", (0, 13)), ("'", (2, 4)), ("''", (2, 4)), ("'b", (3, 4)),
                             ("1", (4, 6)), ("01", (4, 6)), ("12", (6, 7)), ("2", (6, 6)), ("a", (7, 8)),
                             ("b", (8, 12)), ("B", (8, 12)), ("b'", (8, 12)), ("bc", (10, 12)), ("ba", (9, 10)),
                             ("bb", (10, 10)), ("bca", (11, 12)), ("bcaa", (12, 12)), ("c", (12, 13)),
                             ("cc", (13, 13)), ("aa", (8, 8)), ("123", (7, 7)), ("0", (4, 4))):
            self.assertEqual(shelf.begins(text), wanted, text)

    def test_letters_of_two_signs(self):
        shelf = shelf_of(order_of("row c h ch d"), ["c", "ch", "cd", "chh", "h"])
        self.assertEqual(shelf.texts(), ["c", "cd", "h", "ch", "chh"])
        self.assertEqual(shelf.begins("c"), (0, 2))
        self.assertEqual(shelf.begins("ch"), (3, 5))
        self.assertEqual(shelf.begins("h"), (2, 3))

    def test_counting_pieces(self):
        shelf = shelf_of(order_of("row a b", "marks '", "as x a b", "as y a ' b"), ["x", "ab", "a", "xa", "y", "b"])
        self.assertEqual(shelf.texts(), ["a", "ab", "x", "y", "xa", "b"])
        self.assertEqual(shelf.begins("a"), (0, 5))
        self.assertEqual(shelf.begins("x"), (1, 5))
        self.assertEqual(shelf.begins("y"), (1, 5))
        self.assertEqual(shelf.alike("x", 1), (1, 4))
        self.assertEqual(shelf.alike("x", 3), (1, 3))

    def test_on_a_shelf_without_texts(self):
        shelf = Shelf(order_of("row a b"))
        for text in ["", "a", "ab"]:
            for strength in (1, 2, 3, 4):
                self.assertEqual(shelf.alike(text, strength), (0, 0))
            self.assertEqual(shelf.alike(text), (0, 0))
            self.assertEqual(shelf.begins(text), (0, 0))
        shelf.put("a")
        shelf.drop("a")
        self.assertEqual((shelf.alike("a", 1), shelf.begins("a"), shelf.begins("")), ((0, 0),) * 3)

    def test_as_texts_come_and_go(self):
        shelf = Shelf(order_of("row a b", "over -"))
        for text, wanted in (("b", (0, 0)), ("a", (0, 1)), ("a-", (0, 2)), ("ab", (0, 2)), ("", (1, 3))):
            shelf.put(text)
            self.assertEqual(shelf.alike("a", 3), wanted)
        self.assertEqual(shelf.begins("a"), (1, 4))
        for text, wanted in (("a", (1, 2)), ("", (0, 1)), ("a-", (0, 0))):
            shelf.drop(text)
            self.assertEqual(shelf.alike("a", 3), wanted)
        self.assertEqual(shelf.begins("a"), (0, 1))

    def test_of_many_texts(self):
        for lines in (LINES, LINES + ["behind"]):
            order = order_of(*lines)
            texts = texts_of(SIGNS, 2)
            shelf = shelf_of(order, texts[::2] + ["a'b`", "a`b'", "a-b", "yab", "10a"])
            for text in texts + ["a'b`", "a`b'", "aab", "aaa", "y-", "1010"]:
                for strength in (1, 2, 3, 4):
                    self.check_alike(order, shelf, text, strength)
                self.check_begins(order, shelf, text)

    def test_asking_changes_nothing(self):
        shelf = shelf_of(order_of("row a b"), ["b", "a"])
        shelf.alike("ab", 1)
        shelf.begins("ab")
        self.assertEqual(shelf.texts(), ["a", "b"])
        shelf.put("ab")
        self.assertEqual(shelf.texts(), ["a", "ab", "b"])

    def test_no_sign(self):
        order = order_of("row a b", "over -")
        for shelf in (Shelf(order), shelf_of(order, ["a"]), shelf_of(order, ["b", "a", "ab"])):
            for text, at in (("?", 0), ("a?", 1), ("b-?", 2), ("bbb1", 3)):
                for asked in (shelf.alike, shelf.begins, *[lambda text, strength=strength: shelf.alike(text, strength)
                                                           for strength in (1, 2, 3, 4)]):
                    with self.assertRaises(NoSign) as caught:
                        asked(text)
                    self.assertEqual(caught.exception.at, at)

    def test_a_full_shelf_of_long_texts(self):
        order = order_of("row a b", "as y" + " a" * 20, "over -")
        texts = ["y" * 200 + "b" * at + "-" * (100 - at) for at in range(100)] + ["a" * at for at in range(200)]
        shelf = shelf_of(order, texts[::-1])
        self.assertEqual(shelf.texts(), texts[100:] + texts[:100])
        self.assertEqual(shelf.alike("y" * 200, 3), (200, 201))
        self.assertEqual(shelf.begins("y" * 200 + "b"), (201, 300))
        self.assertEqual(shelf.begins("y"), (20, 300))


if __name__ == "__main__":
    unittest.main()
