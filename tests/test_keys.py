"""Points 17 and 18: keys, level by level, and the letters of a text."""

import copy
import inspect
import itertools
import unittest

from sortlore.errors import NoSign
from sortlore.keys import key, letters_of
from sortlore.orders import Order
from sortlore.rules import read_rule
from sortlore.units import units

LINES = ["row a b", "marks ' `", "great a A", "great a AA", "as x b `", "over -", "blanks", "figures"]


def order_of(*lines):
    return Order([read_rule(line) for line in lines])


def plain_levels(order, text):
    """The four levels as point 17 tells them, each with its 0, by the elements."""
    made = units(order, text)
    first = [number for kind, worth, marks, case in made
             for number in {0: [1], 1: [2, worth + 1], 2: [worth + 3]}[kind]]
    groups = [[place + 2 for place in marks] + [1] for kind, worth, marks, case in made]
    if order.behind:
        groups.reverse()
    second = [number for group in groups for number in group]
    third = [case + 1 for kind, worth, marks, case in made]
    return [level + [0] for level in (first, second, third, list(map(ord, text)))]


class Levels(unittest.TestCase):
    def check(self, order, text, *levels):
        """The levels without their 0, at each strength."""
        wanted = []
        for strength, level in enumerate(levels, 1):
            wanted += level + [0]
            got = key(order, text, strength)
            self.assertEqual(got, wanted, (text, strength))
            self.assertIs(type(got), list)
            self.assertTrue(all(type(number) is int for number in got))
        self.assertEqual(letters_of(order, text), levels[0])
        if len(levels) == 4:
            self.assertEqual(key(order, text), wanted)

    def test_letters(self):
        order = order_of("row c a b", "row ch")
        self.check(order, "cabch", [3, 4, 5, 6], [1, 1, 1, 1], [1, 1, 1, 1], [99, 97, 98, 99, 104])

    def test_each_kind_at_the_first_level(self):
        order = order_of(*LINES)
        self.check(order, "'", [1], [2, 1], [1], [39])
        self.check(order, "7", [2, 8], [1], [1], [55])
        self.check(order, "0", [2, 1], [1], [1], [48])
        self.check(order, "a", [3], [1], [1], [97])
        self.check(order, "b", [4], [1], [1], [98])
        self.check(order, "A", [3], [1], [2], [65])
        self.check(order, "x", [4], [3, 1], [1], [120])
        self.check(order, "-", [], [], [], [45])
        self.check(order, " ", [], [], [], [32])
        self.check(order, "'a12bx-", [1, 3, 2, 13, 4, 4], [2, 1, 1, 1, 1, 3, 1], [1] * 5)

    def test_marks(self):
        order = order_of("row a b", "marks ' ` ,")
        self.check(order, "a'b,`a", [3, 4, 3], [2, 1, 4, 3, 1, 1], [1, 1, 1], [97, 39, 98, 44, 96, 97])
        self.check(order, ",'a", [1, 3], [4, 2, 1, 1], [1, 1], [44, 39, 97])

    def test_marks_from_behind(self):
        order = order_of("row a b", "marks ' ` ,", "behind")
        self.check(order, "a'b,`a", [3, 4, 3], [1, 4, 3, 1, 2, 1], [1, 1, 1], [97, 39, 98, 44, 96, 97])
        self.check(order, ",'ab`", [1, 3, 4], [3, 1, 1, 4, 2, 1], [1, 1, 1], [44, 39, 97, 98, 96])

    def test_cases(self):
        order = order_of("row a b", "great b B", "great a A AA", "great b BB", "behind")
        self.check(order, "aABAABb", [3, 3, 4, 3, 4, 4], [1] * 6, [1, 2, 2, 3, 2, 1])
        self.check(order, "BBA", [4, 3], [1, 1], [3, 2], [66, 66, 65])

    def test_signs(self):
        order = order_of("row ! ~", "over -", "blanks")
        self.check(order, " !-~", [3, 4], [1, 1], [1, 1], [32, 33, 45, 126])

    def test_the_strength_left_out_is_4(self):
        order = order_of(*LINES, "behind")
        for text in ["", "a", "'aA12x- `"]:
            self.assertEqual(key(order, text), key(order, text, 4))
            self.assertEqual(key(order, text, strength=4), key(order, text, 4))

    def test_the_text_without_signs(self):
        for lines in ([], LINES, LINES + ["behind"]):
            self.check(order_of(*lines), "", [], [], [], [])
            self.assertEqual(key(order_of(*lines), ""), [0, 0, 0, 0])
            self.assertEqual(letters_of(order_of(*lines), ""), [])

    def test_great_worths(self):
        order = order_of("figures")
        self.check(order, "9" * 300, [2, 10 ** 300], [1], [1], [57] * 300)

    def test_long_texts(self):
        order = order_of("row a", "marks '", "as x a" + " '" * 19, "as y " + "a " * 19 + "a")
        self.check(order, "x" * 300, [3] * 300, ([2] * 19 + [1]) * 300, [1] * 300, [120] * 300)
        self.check(order, "y" * 300, [3] * 6000, [1] * 6000, [1] * 6000, [121] * 300)

    def test_the_interface(self):
        self.assertEqual(str(inspect.signature(key)), "(order, text, strength=4)")
        self.assertEqual(str(inspect.signature(letters_of)), "(order, text)")

    def test_each_level_by_its_words(self):
        for lines in (LINES, LINES + ["behind"]):
            order = order_of(*lines)
            for size in range(5):
                for signs in itertools.product("abA'`x- 0", repeat=size):
                    text = "".join(signs)
                    levels = plain_levels(order, text)
                    self.assertEqual(key(order, text), sum(levels, []), text)
                    self.assertEqual(letters_of(order, text), levels[0][:-1], text)
                    for strength in (1, 2, 3):
                        self.assertEqual(key(order, text, strength), sum(levels[:strength], []), text)


class Whole(unittest.TestCase):
    def texts(self):
        return ["".join(signs) for size in range(4) for signs in itertools.product("abA'`x- 01", repeat=size)]

    def test_a_key_is_the_beginning_of_the_key_of_each_higher_strength(self):
        for order in (order_of(*LINES), order_of(*LINES, "behind")):
            for text in self.texts():
                keys = [key(order, text, strength) for strength in (1, 2, 3, 4)]
                for lower, higher in itertools.combinations(keys, 2):
                    self.assertEqual(higher[:len(lower)], lower, text)
                    self.assertLess(len(lower), len(higher))

    def test_0_stands_at_each_levels_end_and_nowhere_else(self):
        for order in (order_of(*LINES), order_of(*LINES, "behind")):
            for text in self.texts():
                for strength in (1, 2, 3, 4):
                    got = key(order, text, strength)
                    self.assertEqual(got.count(0), strength, text)
                    self.assertEqual(got[-1], 0)
                    self.assertTrue(all(number >= 0 for number in got))

    def test_letters_are_the_first_level_without_its_0(self):
        order = order_of(*LINES)
        for text in self.texts():
            self.assertEqual(letters_of(order, text) + [0], key(order, text, 1), text)
            self.assertNotIn(0, letters_of(order, text))

    def test_unlike_texts_have_unlike_keys(self):
        texts = self.texts()
        order = order_of(*LINES)
        self.assertEqual(len({tuple(key(order, text)) for text in texts}), len(texts))

    def test_keys_put_texts_as_the_order_does(self):
        order = order_of("row a b ch", "row c", "marks ' `", "great a A", "figures", "over -")
        rising = ["", "-", "'", "'`", "`", "'a", "02", "2", "9a", "10", "a", "A", "a'", "A'", "a-`", "aa", "ab", "b",
                  "cha", "ca"]
        self.assertEqual(sorted(rising[::-1], key=lambda text: key(order, text)), rising)

    def test_behind_turns_what_marks_decide(self):
        texts = ["aa'", "a'a"]
        self.assertEqual(sorted(texts, key=lambda text: key(order_of("row a", "marks '"), text)), ["aa'", "a'a"])
        behind = order_of("row a", "marks '", "behind")
        self.assertEqual(sorted(texts, key=lambda text: key(behind, text)), ["a'a", "aa'"])


class Kept(unittest.TestCase):
    def asked(self, order, text):
        return [key(order, text, strength) for strength in (1, 2, 3, 4)] + [key(order, text), letters_of(order, text)]

    def test_each_list_is_the_askers_own(self):
        order = order_of(*LINES)
        for text in ["", "'aA12x-"]:
            wanted = copy.deepcopy(self.asked(order, text))
            for numbers in self.asked(order, text):
                numbers.append(9)
                numbers[0] = 8
            self.assertEqual(self.asked(order, text), wanted)

    def test_rules_that_are_changed_behind_change_nothing(self):
        rules = [read_rule(line) for line in LINES]
        order = Order(rules)
        before = copy.deepcopy(self.asked(order, "'aA`12x-b'"))
        rules[0] = ("row", "b", "a")
        rules.append(("behind",))
        self.assertEqual(self.asked(order, "'aA`12x-b'"), before)
        rules.clear()
        self.assertEqual(self.asked(order, "'aA`12x-b'"), before)

    def test_told_lists_that_are_changed_change_nothing(self):
        order = order_of(*LINES)
        before = copy.deepcopy(self.asked(order, "'aA`12x-b'"))
        for told in (order.letters(), order.marks(), units(order, "'aA`12x-b'")):
            told.reverse()
            told.pop()
        self.assertEqual(self.asked(order, "'aA`12x-b'"), before)

    def test_what_is_refused_changes_nothing(self):
        order = order_of(*LINES)
        before = copy.deepcopy(self.asked(order, "ab'"))
        self.assertRaises(NoSign, key, order, "ab'?")
        self.assertRaises(NoSign, letters_of, order, "?")
        self.assertEqual(self.asked(order, "ab'"), before)


if __name__ == "__main__":
    unittest.main()
