"""Points 26, 27, 28 and 29: two orders laid beside one another."""

import inspect
import itertools
import unittest

from sortlore.beside import beside
from sortlore.errors import LoreError, NoSign, NotPlain
from sortlore.going import compare
from sortlore.orders import Order
from sortlore.rules import read_rule
from sortlore.units import units

# Orders in which each of a, b and c is a letter, a great form, or a counting piece of one element.
POOL = [
    ["row a b c"], ["row a c b"], ["row c b a"], ["row a", "row b", "row c"], ["row a x b y c"],
    ["row a b", "great a c"], ["row a b", "great b c"], ["row a", "great a b c"], ["row a", "great a c b"],
    ["row c", "great c b a"], ["row b a", "great a c"],
    ["row a b", "as c a"], ["row a", "as b a", "as c a"], ["row b", "as a b", "as c b"],
    ["row a", "great a b", "as c a"],
    ["row a", "marks '", "as b a '", "as c a ' '"], ["row a", "marks '", "as b a ' '", "as c a '"],
    ["row a", "marks ' `", "as b a '", "as c a `"], ["row a", "marks ` '", "as b a '", "as c a `"],
    ["row a", "marks '", "great a b", "as c a '"], ["row a", "marks '", "great a c", "as b a '"],
    ["row a b", "marks '", "as c a '"], ["row a b", "marks '", "as c b '"],
    ["row x a", "marks '", "as b x '", "as c x"], ["row a x", "marks '", "as b x '", "as c x"],
]
BEHIND = [rules + ["behind"] for rules in POOL if rules[1:2] and rules[1].startswith("marks")]
ALL = POOL + BEHIND
TEXTS = ["".join(text) for size in range(3) for text in itertools.product("abc", repeat=size)]


def order_of(*lines):
    return Order([read_rule(line) for line in lines])


def lengths(pair):
    return sorted(len(text) for text in pair)


class Checked(unittest.TestCase):
    """An answer is held against the words of points 27, 28 and 29."""

    def stand(self, order, level, sign, x, y, strength):
        """Point 28's words for the two numbers of one order."""
        unlike = [d for d in range(1, strength + 1) if compare(order, x, y, d) != 0]
        if not unlike or 0 < level < unlike[0]:
            return (level, sign)
        d = unlike[0]
        if level == d and not (d == 2 and order.behind):
            return (level, sign)
        return (d, compare(order, x, y, d))

    def check_rooms(self, one, other, signs, strength, rooms):
        self.assertIs(type(rooms), list)
        self.assertEqual(len(set(rooms)), len(rooms))
        self.assertIn((0, 0, 0, 0), rooms)
        for room in rooms:
            self.assertIs(type(room), tuple)
            self.assertEqual([type(number) for number in room], [int] * 4)
            self.assertEqual(room[1], room[3], rooms)
            if signs:
                self.assertEqual(room[0] == 1, room[2] == 1, rooms)
            for x, y in itertools.product(signs, repeat=2):
                self.assertIn(self.stand(one, *room[:2], x, y, strength)
                              + self.stand(other, *room[2:], x, y, strength), rooms)

    def check_pair(self, one, other, signs, strength, pair):
        self.assertIs(type(pair), tuple)
        self.assertEqual([type(text) for text in pair], [str, str])
        self.assertLessEqual(set("".join(pair)), set(signs))
        self.assertNotEqual(compare(one, *pair, strength), compare(other, *pair, strength), pair)

    def check(self, one, other, signs, strength, longest=2):
        """The length of the longer text, as the answer tells it, or None where the orders never part."""
        answer = beside(one, other, signs, strength)
        self.assertIs(type(answer), tuple)
        pair, rooms = answer
        parting = self.parting(one, other, signs, strength, longest)
        if pair is None:
            self.check_rooms(one, other, signs, strength, rooms)
            self.assertIsNone(parting)
            return None
        self.assertIsNone(rooms)
        self.check_pair(one, other, signs, strength, pair)
        self.assertEqual(max(lengths(pair)), parting)
        return parting

    def parting(self, one, other, signs, strength, longest):
        """How many signs the longer text of a shortest pair has, by a search through all short texts, or None."""
        texts = ["".join(text) for size in range(longest + 1) for text in itertools.product(signs, repeat=size)]
        for size in range(1, longest + 1):
            few = [text for text in texts if len(text) <= size]
            if any(compare(one, x, y, strength) != compare(other, x, y, strength) for x in few for y in few):
                return size
        return None


class Parting(Checked):
    def both(self, one, other, signs, wanted, longest=2):
        """The length told at each strength, both ways round."""
        for orders in ((order_of(*one), order_of(*other)), (order_of(*other), order_of(*one))):
            told = [self.check(*orders, list(signs), strength, longest) for strength in (1, 2, 3, 4)]
            self.assertEqual(told, wanted, (one, other, signs))

    def test_the_same_order(self):
        for rules in ALL:
            self.both(rules, rules, "abc", [None] * 4)

    def test_rules_told_otherwise_that_make_the_same_turn(self):
        self.both(["row a b c"], ["row b c", "row a b"], "abc", [None] * 4)
        self.both(["row a b c"], ["row x a y b z c"], "abc", [None] * 4)
        self.both(["row a", "great a A"], ["row b a", "great a x A y"], "aA", [None] * 4)
        self.both(["row a", "marks '", "as m a '"], ["row a", "marks ` '", "as m a '"], "am", [None] * 4)

    def test_what_the_signs_don_t_show(self):
        one, other = ["row a b c d", "marks ' `", "over ."], ["row a d c b", "marks ` '", "behind", "figures", "blanks"]
        self.both(one, other, "ab", [None] * 4)
        self.both(one, other, "ad", [None] * 4)
        self.both(one, other, "abd", [1] * 4)

    def test_by_letters(self):
        self.both(["row a b c"], ["row a c b"], "abc", [1] * 4)
        self.both(["row a b"], ["row b a"], "ba", [1] * 4)
        self.both(["row a"], ["row a"], "a", [None] * 4)

    def test_the_pair_of_two_letters(self):
        one, other = order_of("row a b"), order_of("row b a")
        self.assertIn(beside(one, other, ["a", "b"]), [(("a", "b"), None), (("b", "a"), None)])

    def test_by_marks(self):
        self.both(["row a", "marks ' `", "as m a '", "as n a `"], ["row a", "marks ` '", "as m a '", "as n a `"],
                  "amn", [None, 1, 1, 1])
        self.both(["row a", "marks '", "as m a '"], ["row m", "marks '", "as a m '"], "am", [None, 1, 1, 1])
        self.both(["row a", "marks '", "as m a ' '", "as n a '"], ["row a", "marks '", "as m a '", "as n a ' '"],
                  "mn", [None, 1, 1, 1])

    def test_by_case(self):
        self.both(["row a", "great a A B"], ["row a", "great a B A"], "AB", [None, None, 1, 1])
        self.both(["row a", "great a A"], ["row A", "great A a"], "aA", [None, None, 1, 1])

    def test_by_case_against_signs(self):
        # In both the one is before, but by unlike levels: only at strength 3 one of them calls them alike.
        self.both(["row A", "great A a"], ["row A", "as a A"], "aA", [None, None, 1, None])
        self.both(["row a", "great a A"], ["row a", "as A a"], "aA", [None, None, 1, 1])

    def test_by_marks_against_signs(self):
        self.both(["row a", "marks '", "as m a '"], ["row a", "as m a"], "am", [None, 1, 1, None])

    def test_by_two_signs_of_unlike_levels(self):
        # Each pair alone is put the same way by both orders, but the one that decides is another one.
        one = ["row a", "marks '", "as m a '", "as n a"]
        other = ["row a", "marks '", "as m a", "as n a '"]
        self.both(one, other, "amn", [None, 1, 1, 1])
        one = ["row a b", "great a c", "as d b"]
        other = ["row a b", "as c a", "great b d"]
        self.both(one, other, "abcd", [None, None, 1, 2])
        pair = beside(order_of(*one), order_of(*other), list("abcd"))[0]
        self.assertEqual(lengths(pair), [2, 2])

    def test_marks_from_behind(self):
        rules = ["row a", "marks '", "as m a '"]
        self.both(rules, rules + ["behind"], "am", [None, 2, 2, 2])
        self.both(rules + ["behind"], rules + ["behind"], "am", [None] * 4)
        self.both(rules, rules + ["behind"], "a", [None] * 4)
        self.both(rules, rules + ["behind"], "m", [None] * 4)

    def test_marks_from_behind_against_case(self):
        self.both(["row a", "marks '", "as m a '", "behind"], ["row a", "great a m"], "am", [None, 1, 2, 2])

    def test_behind_without_marks(self):
        self.both(["row a b", "great a c"], ["row a b", "great a c", "behind"], "abc", [None] * 4)

    def test_texts_of_unlike_length(self):
        for one, other, signs, wanted in (
                (["row a", "great a b"], ["row a b"], "ab", [1, 1, 2, 2]),
                (["row a", "marks '", "as b a '"], ["row a b"], "ab", [1, 2, 2, 2]),
                (["row a", "as b a"], ["row a b"], "ab", [1, 1, 1, 2])):
            self.both(one, other, signs, wanted, 3)
            for strength, length in enumerate(wanted, 1):
                for first, second in ((one, other), (other, one)):
                    for turn in (list(signs), list(signs)[::-1]):
                        pair = beside(order_of(*first), order_of(*second), turn, strength)[0]
                        self.assertEqual(lengths(pair), [1, 2] if length == 2 else [1, 1], (one, other, strength))

    def test_the_strength_left_out_is_4(self):
        one, other = order_of("row a", "great a A"), order_of("row a", "as A a")
        self.assertEqual(beside(one, other, ["a", "A"])[1], None)
        self.assertEqual(beside(one, other, ["a", "A"], strength=2)[0], None)
        self.assertEqual(str(inspect.signature(beside)), "(one, other, signs, strength=4)")
        one, other = order_of("row a", "as b a"), order_of("row a b")
        self.assertEqual(lengths(beside(one, other, ["a", "b"])[0]), [1, 2])

    def test_a_sign_that_comes_twice(self):
        self.both(["row a b c"], ["row a c b"], "abacab", [1] * 4)
        self.both(["row a", "great a A"], ["row b a", "great a A"], "aAaa", [None] * 4)

    def test_eight_signs(self):
        one = ["row a b c d e f g h"]
        for at in range(7):
            turned = list("abcdefgh")
            turned[at], turned[at + 1] = turned[at + 1], turned[at]
            self.both(one, ["row " + " ".join(turned)], "abcdefgh", [1] * 4)
        self.both(one, one, "hgfedcba", [None] * 4)
        marked = ["row a e", "marks ' `", "great a b", "as c a '", "as d a `", "great e f", "as g e '", "as h e `"]
        self.both(marked, marked + ["behind"], "abcdefgh", [None, 2, 2, 2])

    def test_all_orders_of_the_pool(self):
        """All pairs of orders of the pool at each strength, against a search through all texts of two signs."""
        orders = [order_of(*rules) for rules in ALL]
        pairs = list(itertools.product(TEXTS, repeat=2))
        sizes = [max(len(x), len(y)) for x, y in pairs]
        told = set()
        for strength in (1, 2, 3, 4):
            puts = [[compare(order, x, y, strength) for x, y in pairs] for order in orders]
            for at, other in itertools.product(range(len(orders)), repeat=2):
                wanted = min((size for size, x, y in zip(sizes, puts[at], puts[other]) if x != y), default=None)
                pair, rooms = beside(orders[at], orders[other], ["a", "b", "c"], strength)
                where = (ALL[at], ALL[other], strength)
                if wanted is None:
                    self.assertIsNone(pair, where)
                    self.check_rooms(orders[at], orders[other], "abc", strength, rooms)
                else:
                    self.assertIsNone(rooms, where)
                    self.check_pair(orders[at], orders[other], "abc", strength, pair)
                    self.assertEqual(max(lengths(pair)), wanted, where)
                told.add((strength, wanted))
        # At strength 1 two signs that differ in one order alone are put otherwise at once.
        self.assertEqual(told, set(itertools.product((1, 2, 3, 4), (None, 1, 2))) - {(1, 2)})

    def test_longer_texts_show_no_more(self):
        for rules in (["row a b", "great a c"], ["row a", "marks '", "great a b", "as c a '", "behind"]):
            for others in (["row x a b", "great a c"], ["row a", "marks '", "great a c", "as b a '", "behind"]):
                for strength in (1, 2, 3, 4):
                    self.check(order_of(*rules), order_of(*others), ["a", "b", "c"], strength, 3)


class Rooms(Checked):
    def test_of_one_order_twice(self):
        order = order_of("row a b", "marks '", "great a A", "as m a '")
        for strength in (1, 2, 3, 4):
            rooms = beside(order, order, list("abAm"), strength)[1]
            self.check_rooms(order, order, "abAm", strength, rooms)
            levels = [0] + list(range(1, min(strength, 3) + 1))
            self.assertEqual({room[0] for room in rooms}, set(levels))

    def test_of_unlike_levels(self):
        one, other = order_of("row A", "great A a"), order_of("row A", "as a A")
        rooms = beside(one, other, ["a", "A"])[1]
        self.assertEqual(sorted(rooms), [(0, 0, 0, 0), (3, -1, 4, -1), (3, 1, 4, 1)])

    def test_of_one_sign(self):
        one, other = order_of("row a b"), order_of("row b a")
        for strength in (1, 2, 3, 4):
            self.assertEqual(beside(one, other, ["a"], strength), (None, [(0, 0, 0, 0)]))
            self.assertEqual(beside(one, other, ["b", "b"], strength), (None, [(0, 0, 0, 0)]))

    def test_without_signs(self):
        for one, other in itertools.product(("row a b", "row b a", "over a", "behind"), repeat=2):
            for strength in (1, 2, 3, 4):
                self.assertEqual(beside(order_of(one), order_of(other), [], strength), (None, [(0, 0, 0, 0)]))
        self.assertEqual(beside(Order([]), Order([]), []), (None, [(0, 0, 0, 0)]))


class NotPlainOnes(unittest.TestCase):
    RULES = ["row a b c", "marks ' `", "great a A", "as m a '", "as n a ' `", "as z a", "as w a b", "as v a ' b",
             "over .", "blanks"]

    def refused(self, one, other, signs, strength=4):
        with self.assertRaises(NotPlain) as caught:
            beside(one, other, signs, strength)
        self.assertIsInstance(caught.exception, LoreError)
        return caught.exception.piece

    def test_what_is_plain(self):
        order = order_of(*self.RULES)
        for sign in "abcAmnz":
            self.assertEqual(beside(order, order, [sign]), (None, [(0, 0, 0, 0)]))
        self.assertIsNone(beside(order, order, list("abcAmnz"))[0])

    def test_what_is_not_in_the_one_or_the_other(self):
        order = order_of(*self.RULES)
        # No piece, marks, pieces passed over, counting pieces of two elements.
        for sign in ["?", "1", "'", "`", ".", " ", "w", "v"]:
            plain = order_of("row " + sign) if sign != " " else order
            for strength in (1, 2, 3, 4):
                self.assertEqual(self.refused(order, order, [sign], strength), sign)
                self.assertEqual(self.refused(order, plain, [sign], strength), sign)
                self.assertEqual(self.refused(plain, order, [sign], strength), sign)
            if sign != " ":
                self.assertIsNone(beside(plain, plain, [sign])[0])

    def test_figures_by_worth(self):
        figures, letters = order_of("row a", "figures"), order_of("row a 1")
        self.assertEqual(self.refused(figures, letters, ["a", "1"]), "1")
        self.assertEqual(self.refused(letters, figures, ["1", "a"]), "1")
        self.assertIsNone(beside(letters, letters, ["1", "a"])[0])

    def test_a_sign_that_only_begins_a_piece(self):
        order = order_of("row a ch")
        self.assertEqual(self.refused(order, order, ["a", "c"]), "c")
        self.assertEqual(self.refused(order, order, ["h", "c"]), "h")

    def test_the_first_sign_in_the_lists_turn(self):
        order = order_of(*self.RULES)
        other = order_of("row a b w ?", "over c")
        self.assertEqual(self.refused(order, other, ["a", "c", "?"]), "c")
        self.assertEqual(self.refused(order, other, ["a", "?", "c"]), "?")
        self.assertEqual(self.refused(other, order, ["b", "w", "c", "?"]), "w")
        self.assertEqual(self.refused(other, order, ["c", "w", "b", "?"]), "c")

    def test_two_put_together_by_each_job(self):
        plain = order_of("row a b")
        for rule in ("row ab", "marks ab", "great a ab", "as ab a", "as ab a b", "over ab"):
            order = order_of("row a b", rule)
            for strength in (1, 2, 3, 4):
                self.assertEqual(self.refused(order, plain, ["a", "b"], strength), "ab")
                self.assertEqual(self.refused(plain, order, ["b", "a"], strength), "ab")
            self.assertIsNone(beside(plain, order, ["a"])[0])
            self.assertIsNone(beside(order, plain, ["b", "b"])[0])

    def test_a_sign_and_itself(self):
        plain, order = order_of("row a b"), order_of("row a b", "over bb")
        self.assertEqual(self.refused(plain, order, ["a", "b"]), "bb")
        self.assertEqual(self.refused(order, plain, ["b"]), "bb")
        self.assertEqual(self.refused(order, order, ["b", "b"]), "bb")
        self.assertIsNone(beside(plain, order, ["a", "a"])[0])

    def test_the_first_two_in_the_turn_of_the_first_then_of_the_second(self):
        one, other = order_of("row a b c", "over ba ac"), order_of("row a b c", "row cb bb")
        self.assertEqual(self.refused(one, other, ["a", "b", "c"]), "ac")
        self.assertEqual(self.refused(one, other, ["b", "c", "a"]), "bb")
        self.assertEqual(self.refused(other, one, ["b", "a", "c"]), "bb")
        self.assertEqual(self.refused(one, other, ["c", "a", "b"]), "cb")
        self.assertEqual(self.refused(other, one, ["c", "a"]), "ac")
        self.assertEqual(self.refused(one, other, ["b", "a"]), "bb")
        one = order_of("row a b c", "over ba")
        self.assertEqual(self.refused(one, order_of("row a b c", "over bc"), ["b", "c", "a"]), "bc")
        self.assertEqual(self.refused(one, order_of("row a b c", "over bc"), ["b", "a", "c"]), "ba")

    def test_signs_ahead_of_pairs(self):
        one, other = order_of("row a b", "row aa ab"), order_of("row a b x", "row bb")
        self.assertEqual(self.refused(one, other, ["a", "b", "x"]), "x")
        self.assertEqual(self.refused(other, one, ["a", "b", "x"]), "x")
        self.assertEqual(self.refused(one, other, ["a", "b"]), "aa")
        self.assertEqual(self.refused(one, other, ["b", "a"]), "bb")

    def test_pieces_of_other_signs_don_t_matter(self):
        order = order_of("row a b ch ax", "over xa")
        self.assertIsNone(beside(order, order, ["a", "b"])[0])

    def test_against_the_words_of_the_point(self):
        """Each list of up to three of these signs, with two orders that have unlike jobs for them."""
        orders = [order_of("row a b", "great a c", "over bb", "marks d"),
                  order_of("row c d", "as b c d", "as a c", "over ac"), order_of("row a b c d", "great d ad da")]
        for one, other in itertools.product(orders, repeat=2):
            for size in range(4):
                for signs in itertools.product("abcd?", repeat=size):
                    self.assertEqual(self.told(one, other, list(signs)), self.wanted(one, other, signs))

    def told(self, one, other, signs):
        try:
            beside(one, other, signs)
        except NotPlain as error:
            return error.piece
        return None

    def wanted(self, one, other, signs):
        def plain(order, sign):
            return order.job(sign) in ("letter", "great", "as") and len(units(order, sign)) == 1
        wrong = [sign for sign in signs if not (plain(one, sign) and plain(other, sign))]
        if wrong:
            return wrong[0]
        twos = ["".join(two) for two in itertools.product(signs, repeat=2)]
        jobs = [two for two in twos if one.job(two) or other.job(two)]
        return jobs[0] if jobs else None

    def test_the_refusal_is_its_own(self):
        order = order_of("row a")
        with self.assertRaises(NotPlain) as caught:
            beside(order, order, ["b"])
        self.assertNotIsInstance(caught.exception, NoSign)


class Kept(unittest.TestCase):
    def test_nothing_handed_in_is_changed(self):
        one, other = order_of("row a b", "great a A"), order_of("row a A b")
        signs = ["a", "b", "A"]
        for strength in (1, 2, 3, 4):
            beside(one, other, signs, strength)
            beside(one, one, signs, strength)
        self.assertEqual(signs, ["a", "b", "A"])
        self.assertEqual((one.letters(), other.letters()), (["a", "b"], ["a", "A", "b"]))

    def test_the_rooms_are_the_askers_own(self):
        one, other = order_of("row a b"), order_of("row x a b")
        first = beside(one, other, ["a", "b"])[1]
        wanted = list(first)
        first.clear()
        self.assertEqual(beside(one, other, ["a", "b"])[1], wanted)
        empty = beside(one, other, [])[1]
        empty.append((1, 1, 1, 1))
        self.assertEqual(beside(one, other, [])[1], [(0, 0, 0, 0)])

    def test_what_is_done_to_the_signs_later_changes_nothing(self):
        one = order_of("row a b")
        signs = ["a", "b"]
        answer = beside(one, one, signs)
        kept = (None, list(answer[1]))
        signs.clear()
        self.assertEqual(answer, kept)


if __name__ == "__main__":
    unittest.main()
