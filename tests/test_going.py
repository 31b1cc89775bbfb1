"""Points 19 and 20: two texts compared, and keys that tell the same."""

import inspect
import itertools
import unittest

from sortlore.errors import NoSign
from sortlore.going import compare
from sortlore.keys import key
from sortlore.orders import Order
from sortlore.rules import read_rule
from sortlore.units import units

LINES = ["row a b", "marks ' `", "great a A AA", "as x b `", "as y a b", "over -", "blanks", "figures"]
SIGNS = "abA'`xy- 01"


def order_of(*lines):
    return Order([read_rule(line) for line in lines])


def texts_of(signs, size):
    """All texts of these signs up to a length."""
    return ["".join(text) for length in range(size + 1) for text in itertools.product(signs, repeat=length)]


def sign(one, other):
    return (one > other) - (one < other)


def first_that_differ(ones, others):
    """What the first two numbers that differ tell, or the list that ends first."""
    for one, other in zip(ones, others):
        if one != other:
            return -1 if one < other else 1
    return sign(len(ones), len(others))


def plain_going(order, one, other, strength):
    """Point 19, word by word."""
    ones, others = units(order, one), units(order, other)
    for (kind, worth, *_), (kind2, worth2, *_) in zip(ones, others):
        if kind != kind2:
            return -1 if kind < kind2 else 1
        if worth != worth2:
            return -1 if worth < worth2 else 1
    if len(ones) != len(others):
        return -1 if len(ones) < len(others) else 1
    if strength >= 2:
        differing = [at for at in range(len(ones)) if ones[at][2] != others[at][2]]
        if differing:
            at = max(differing) if order.behind else min(differing)
            return first_that_differ(ones[at][2], others[at][2])
    if strength >= 3:
        cases = first_that_differ([unit[3] for unit in ones], [unit[3] for unit in others])
        if cases:
            return cases
    if strength >= 4:
        return first_that_differ(list(map(ord, one)), list(map(ord, other)))
    return 0


class Levels(unittest.TestCase):
    def check(self, order, one, other, level):
        """The one is before the other by this level: alike below it, and before from it on."""
        for strength in (1, 2, 3, 4):
            wanted = -1 if strength >= level else 0
            for texts, number in (((one, other), wanted), ((other, one), -wanted)):
                got = compare(order, *texts, strength)
                self.assertEqual(got, number, (texts, strength))
                self.assertIs(type(got), int)
        self.assertEqual((compare(order, one, other), compare(order, other, one)), (-1, 1), (one, other))

    def test_letters_decide(self):
        order = order_of("row c a b", "row ch", "marks '", "great b B")
        for one, other in [("c", "a"), ("a", "b"), ("b", "ch"), ("cch", "a"), ("ab", "ach"), ("ca", "cb"),
                           ("ca'", "cb"), ("a", "B"), ("a'b", "aB'b")]:
            self.check(order, one, other, 1)

    def test_the_first_letters_that_differ_decide(self):
        order = order_of("row a b c")
        self.check(order, "abc", "aca", 1)
        self.check(order, "acccc", "b", 1)

    def test_kinds_decide_ahead_of_worths(self):
        order = order_of("figures", "row a b", "marks '")
        self.check(order, "'", "0", 1)
        self.check(order, "999", "a", 1)
        self.check(order, "'b", "0", 1)
        self.check(order, "'99", "a", 1)
        self.check(order, "b999", "ba", 1)
        self.check(order, "b'9", "ba", 1)

    def test_no_more_elements(self):
        order = order_of(*LINES)
        for one, other in [("", "a"), ("", "0"), ("", "'"), ("a", "aa"), ("a``", "aa"), ("a", "a0"), ("A", "ab"),
                           ("-- ", "a"), ("b", "xa"), ("a", "y"), ("a'b", "yA"), ("'", "'a"), ("7", "7 7")]:
            self.check(order, one, other, 1)

    def test_figures_by_worth(self):
        order = order_of("figures", "row a")
        for one, other in [("2", "10"), ("9", "10"), ("009", "10"), ("0", "1"), ("99", "0100"), ("a2", "a10"),
                           ("8" * 300, "9" * 300), ("9" * 299, "1" + "0" * 299)]:
            self.check(order, one, other, 1)

    def test_noughts_ahead_tell_at_the_signs(self):
        order = order_of("figures", "row a")
        self.check(order, "07", "7", 4)
        self.check(order, "007", "07", 4)
        self.check(order, "00", "000", 4)
        self.check(order, "a00a", "a0a", 4)

    def test_figures_as_other_signs(self):
        order = order_of("row 1 2 3 0")
        self.check(order, "10", "2", 1)
        self.check(order, "3", "0", 1)

    def test_marks_decide(self):
        order = order_of("row a b", "marks ' `")
        for one, other in [("a", "a'"), ("a'", "a`"), ("ab'", "a'b"), ("a'b`", "a`b"), ("'", "`"), ("'a`", "`a")]:
            self.check(order, one, other, 2)

    def test_marks_that_have_no_more(self):
        for order in (order_of("row a b", "marks ' `"), order_of("row a b", "marks ' `", "behind")):
            for one, other in [("a", "a'"), ("a'", "a''"), ("a'", "a'`"), ("a`", "a`'"), ("'", "'`"), ("''", "'`")]:
                self.check(order, one, other, 2)

    def test_marks_at_one_element_go_from_the_first_on(self):
        for order in (order_of("row a", "marks ' `"), order_of("row a", "marks ' `", "behind")):
            self.check(order, "a'`", "a`'", 2)
            self.check(order, "a'``", "a`'", 2)
            self.check(order, "a''`", "a'`'", 2)
            self.check(order, "a'```", "a`", 2)

    def test_marks_from_behind(self):
        plain, behind = order_of("row a b", "marks ' `"), order_of("row a b", "marks ' `", "behind")
        for one, other in [("ab'", "a'b"), ("a'b`", "a`b'"), ("aa`a", "a'aa"), ("a'`b`'", "a`'b'`"),
                           ("a'aab`", "a`aab"), ("'ab`", "`ab"), ("a''b`", "a'`b''")]:
            self.check(plain, one, other, 2)
            self.check(behind, other, one, 2)

    def test_marks_from_behind_where_one_element_differs(self):
        behind = order_of("row a b", "marks ' `", "behind")
        self.check(behind, "abb", "a'bb", 2)
        self.check(behind, "ab'b", "ab`b", 2)
        self.check(behind, "abb'", "abb`", 2)

    def test_behind_turns_marks_alone(self):
        for lines in (["row a b", "great a A", "great b B"], ["row a b", "great a A", "great b B", "behind"]):
            order = order_of(*lines)
            self.check(order, "ab", "ba", 1)
            self.check(order, "aB", "Ab", 3)
            self.check(order, "a", "ab", 1)

    def test_cases_decide(self):
        order = order_of("row a b", "great a A AA", "great b B", "marks '", "great a a~")
        for one, other in [("a", "A"), ("A", "AA"), ("AA", "a~"), ("aB", "Ab"), ("Ab", "AB"), ("a'", "A'"),
                           ("bAb", "bAAb")]:
            self.check(order, one, other, 3)

    def test_marks_decide_ahead_of_cases(self):
        order = order_of("row a b", "great a A", "marks '")
        self.check(order, "A", "a'", 2)
        self.check(order, "Ab", "ab'", 2)

    def test_signs_decide(self):
        order = order_of(*LINES)
        for one, other in [("-", "--"), (" ", "-"), ("-a", "a"), ("a", "a-"), ("a -", "a--"), ("a b", "ab"),
                           ("a b", "y"), ("b`", "x"), ("", " "), ("'", "-'")]:
            self.check(order, one, other, 4)

    def test_signs_go_by_their_codes(self):
        order = order_of("row a", "over ~ - ! _ z Z 0")
        for one, other in [("!", "-"), ("-", "0"), ("0", "Z"), ("Z", "_"), ("_", "z"), ("z", "~"), ("a!~", "a-")]:
            self.check(order, one, other, 4)

    def test_letters_decide_ahead_of_signs(self):
        order = order_of("row z a", "over -")
        self.check(order, "z", "a", 1)
        self.check(order, "z", "-a", 1)

    def test_what_is_passed_over(self):
        order = order_of("row a b", "over - --", "blanks")
        for one, other in [("a-b", "ab"), ("---a", "a"), ("a  ", "a"), ("-", ""), (" ", "")]:
            for strength in (1, 2, 3):
                self.assertEqual(compare(order, one, other, strength), 0)
                self.assertEqual(compare(order, other, one, strength), 0)
            self.assertNotEqual(compare(order, one, other), 0)

    def test_the_text_without_signs(self):
        for lines in ([], LINES, LINES + ["behind"]):
            for strength in (1, 2, 3, 4):
                self.assertEqual(compare(order_of(*lines), "", "", strength), 0)

    def test_a_text_is_alike_to_itself(self):
        for lines in (LINES, LINES + ["behind"]):
            order = order_of(*lines)
            for text in ["a", "'", "aA12x- `", "-", "y" * 300]:
                for strength in (1, 2, 3, 4):
                    got = compare(order, text, text, strength)
                    self.assertEqual(got, 0)
                    self.assertIs(type(got), int)

    def test_the_strength_left_out_is_4(self):
        order = order_of(*LINES)
        for one, other in [("-", ""), ("a-", "a"), ("x", "b`"), ("07", "7")]:
            self.assertEqual(compare(order, one, other, 3), 0)
            self.assertNotEqual(compare(order, one, other), 0)
            self.assertEqual(compare(order, one, other), compare(order, one, other, 4))
            self.assertEqual(compare(order, one, other, strength=4), compare(order, one, other))

    def test_long_texts(self):
        order = order_of("row a b", "marks '", "as y" + " a" * 20, "as x a" + " '" * 19, "over -")
        self.check(order, "y" * 299, "y" * 300, 1)
        self.check(order, "y" * 299 + "a" * 1, "y" * 299 + "b", 1)
        self.check(order, "a" * 299 + "x", "x" + "a" * 299, 2)
        self.check(order, "a" * 300, "a" * 299 + "x", 2)

    def test_the_interface(self):
        self.assertEqual(str(inspect.signature(compare)), "(order, one, other, strength=4)")


class NoSigns(unittest.TestCase):
    def refused(self, order, one, other, at):
        for strength in (1, 2, 3, 4):
            with self.assertRaises(NoSign, msg=(one, other, strength)) as caught:
                compare(order, one, other, strength)
            self.assertEqual(caught.exception.at, at, (one, other))
        with self.assertRaises(NoSign) as caught:
            compare(order, one, other)
        self.assertEqual(caught.exception.at, at)

    def test_either_text(self):
        order = order_of("row a b", "over -")
        self.refused(order, "a?", "a", 1)
        self.refused(order, "a", "aa?", 2)
        self.refused(order, "?", "", 0)
        self.refused(order, "", "?", 0)

    def test_the_first_one_first(self):
        order = order_of("row a b", "over -")
        self.refused(order, "aa?", "a?", 2)
        self.refused(order, "a?", "aa?", 1)
        self.refused(order, "ab--?", "?", 4)

    def test_where_both_are_equal(self):
        order = order_of("row a b")
        self.refused(order, "ab?", "ab?", 2)
        self.refused(order, " ", " ", 0)
        self.refused(order, "ab??", "ab?", 2)

    def test_where_the_first_level_would_decide_already(self):
        order = order_of("row a b", "over -")
        self.refused(order, "a", "bbb?", 3)
        self.refused(order, "b", "a?", 1)
        self.refused(order, "a--?", "b", 3)
        self.refused(order, "b?", "a", 1)

    def test_where_passed_over_signs_would_not_matter(self):
        order = order_of("row a", "blanks", "over -")
        self.refused(order, "a ?", "a", 2)
        self.refused(order, "a", "a-?", 2)


class Whole(unittest.TestCase):
    ORDERS = (LINES, LINES + ["behind"], ["row b a ab", "marks `", "marks '", "great ab A", "as x a ' `",
              "as y b ` a '", "over -", "blanks", "row 1 0 01"])
    TEXTS = texts_of(SIGNS, 1) + texts_of("abA'x-0", 2)[8:] + ["a'b`a", "a`b'a", "A-b", "b`a'", "010a", "10 a", "a'ab",
                                                              "aab'", "yy", "abab", "1'", "01`"]

    @classmethod
    def setUpClass(cls):
        """What comparing tells of each two texts, by each order and at each strength."""
        cls.orders = [order_of(*lines) for lines in cls.ORDERS]
        cls.told = [(order, one, other, [compare(order, one, other, strength) for strength in (1, 2, 3, 4)])
                    for order in cls.orders for one in cls.TEXTS for other in cls.TEXTS]

    def test_the_plain_going(self):
        for order, one, other, told in self.told:
            for strength, number in enumerate(told, 1):
                self.assertEqual(number, plain_going(order, one, other, strength), (one, other, strength))

    def test_the_plain_going_of_marks(self):
        for lines in (["row a", "marks ' `", "great a A"], ["row a", "marks ' `", "great a A", "behind"]):
            order = order_of(*lines)
            texts = texts_of("aA'`", 4)
            for one, other in zip(texts * 3, texts[5:] * 3 + texts[:5]):
                for strength in (1, 2, 3, 4):
                    self.assertEqual(compare(order, one, other, strength), plain_going(order, one, other, strength),
                                     (one, other, strength))

    def test_keys_tell_the_same(self):
        keys = {(order, text, strength): key(order, text, strength)
                for order in self.orders for text in self.TEXTS for strength in (1, 2, 3, 4)}
        for order, one, other, told in self.told:
            for strength, number in enumerate(told, 1):
                self.assertEqual(number, sign(keys[order, one, strength], keys[order, other, strength]),
                                 (one, other, strength))

    def test_keys_tell_the_same_of_marks(self):
        for lines in (["row a", "marks ' `"], ["row a", "marks ' `", "behind"]):
            order = order_of(*lines)
            texts = [text for text in texts_of("a'`", 5) if text.count("a") == 2]
            for strength in (1, 2, 4):
                keys = {text: key(order, text, strength) for text in texts}
                for one, other in itertools.combinations(texts, 2):
                    self.assertEqual(compare(order, one, other, strength), sign(keys[one], keys[other]),
                                     (lines, one, other, strength))

    def test_it_is_a_whole_order_at_strength_4(self):
        ahead = dict.fromkeys(itertools.product(self.orders, self.TEXTS), 0)
        for order, one, other, told in self.told:
            ahead[order, one] += told[3] == 1
        for order in self.orders:
            self.assertEqual(sorted(ahead[order, text] for text in self.TEXTS), list(range(len(self.TEXTS))))
        for order, one, other, told in self.told:
            self.assertEqual(told[3], sign(ahead[order, one], ahead[order, other]), (one, other))

    def test_what_is_alike_at_a_strength_is_alike_at_each_lower_one(self):
        for order, one, other, told in self.told:
            decided = [number for number in told if number]
            self.assertEqual(told, [0] * (4 - len(decided)) + decided, (one, other))
            self.assertLessEqual(len(set(decided)), 1, (one, other))


if __name__ == "__main__":
    unittest.main()
