"""Point 28: how a room goes on to another by two signs; and of point 29 what makes a room part."""

import inspect
import itertools
import unittest

from sortlore.errors import NoSign
from sortlore.going import compare
from sortlore.orders import Order
from sortlore.rooms import START, difference, differences, goes_on, is_otherwise, is_parted, is_uneven
from sortlore.rules import read_rule

# Of these signs b is a letter more, A a great form of a, and m and n are a with marks; z counts as a alone.
PLAIN = ["row a b", "marks ' `", "great a A", "as m a '", "as n a `", "as z a"]
BEHIND = PLAIN + ["behind"]
TURNED = ["row b a", "marks ` '", "great a A", "as m a '", "as n a `", "as z a"]
SIGNS = "abAmnz"


def order_of(*lines):
    return Order([read_rule(line) for line in lines])


def after(one, other, room, x, y, strength=4):
    return goes_on(one, other, room, differences(one, other, x, y, strength))


def plain_stand(order, level, sign, x, y, strength):
    """Point 28's own words for one order."""
    told = {d: compare(order, x, y, d) for d in range(1, strength + 1)}
    unlike = [d for d in told if told[d] != 0]
    if not unlike:
        return (level, sign)
    d = min(unlike)
    s = told[d]
    if level == 0 or level > d:
        return (d, s)
    if level < d:
        return (level, sign)
    return (d, s) if d == 2 and order.behind else (level, sign)


def put_by(order, one, other, strength):
    """The level by which two texts are put, and what comparing tells; (0, 0) where they are alike."""
    for level in range(1, strength + 1):
        number = compare(order, one, other, level)
        if number:
            return (level, number)
    return (0, 0)


class Differences(unittest.TestCase):
    def check(self, order, x, y, wanted, strength=4):
        for signs, told in (((x, y), wanted), ((y, x), (wanted[0], -wanted[1]))):
            got = difference(order, *signs, strength)
            self.assertEqual(got, told, (signs, strength))
            self.assertIs(type(got), tuple)
            self.assertEqual([type(number) for number in got], [int, int])

    def test_each_level(self):
        order = order_of(*PLAIN)
        self.check(order, "a", "b", (1, -1))
        self.check(order, "A", "b", (1, -1))
        self.check(order, "n", "b", (1, -1))
        self.check(order, "a", "m", (2, -1))
        self.check(order, "m", "n", (2, -1))
        self.check(order, "A", "m", (2, -1))
        self.check(order, "a", "A", (3, -1))
        self.check(order, "a", "z", (4, -1))
        self.check(order, "z", "A", (3, -1))

    def test_by_another_order(self):
        order = order_of(*TURNED)
        self.check(order, "b", "a", (1, -1))
        self.check(order, "n", "m", (2, -1))
        self.check(order, "a", "n", (2, -1))

    def test_signs_that_are_alike_at_the_strength_asked(self):
        order = order_of(*PLAIN)
        for strength in (1, 2, 3, 4):
            self.check(order, "a", "b", (1, -1), strength)
            self.check(order, "a", "m", (2, -1) if strength >= 2 else (0, 0), strength)
            self.check(order, "a", "A", (3, -1) if strength >= 3 else (0, 0), strength)
            self.check(order, "a", "z", (4, -1) if strength >= 4 else (0, 0), strength)
            for sign in SIGNS:
                self.check(order, sign, sign, (0, 0), strength)

    def test_the_strength_left_out_is_4(self):
        order = order_of(*PLAIN)
        self.assertEqual(difference(order, "a", "z"), (4, -1))
        self.assertEqual(difference(order, "a", "z", strength=3), (0, 0))
        self.assertEqual(differences(order, order, "a", "z"), (4, -1, 4, -1))

    def test_of_two_orders(self):
        one, other = order_of(*PLAIN), order_of(*TURNED)
        self.assertEqual(differences(one, other, "a", "b", 4), (1, -1, 1, 1))
        self.assertEqual(differences(one, other, "m", "n", 2), (2, -1, 2, 1))
        self.assertEqual(differences(one, other, "m", "n", 1), (0, 0, 0, 0))
        third = order_of("row a A", "over b m n", "as z a")
        self.assertEqual(differences(one, third, "a", "A", 4), (3, -1, 1, -1))
        self.assertEqual(differences(third, one, "a", "A", 2), (1, -1, 0, 0))

    def test_no_sign(self):
        one, other = order_of("row a b"), order_of("row a c")
        for strength in (1, 2, 3, 4):
            for x, y in (("?", "a"), ("a", "?"), ("?", "?")):
                self.assertRaises(NoSign, difference, one, x, y, strength)
            for x, y in (("a", "b"), ("b", "a"), ("a", "c"), ("c", "c"), ("b", "b")):
                self.assertRaises(NoSign, differences, one, other, x, y, strength)


class GoesOn(unittest.TestCase):
    def setUp(self):
        self.plain, self.behind, self.turned = order_of(*PLAIN), order_of(*BEHIND), order_of(*TURNED)

    def test_nothing_differs_yet(self):
        self.assertEqual(START, (0, 0, 0, 0))
        for strength in (1, 2, 3, 4):
            for sign in SIGNS:
                self.assertEqual(after(self.plain, self.turned, START, sign, sign, strength), START)
        for x, y, wanted in (("a", "b", (1, -1, 1, 1)), ("b", "a", (1, 1, 1, -1)), ("m", "n", (2, -1, 2, 1)),
                             ("a", "m", (2, -1, 2, -1)), ("A", "a", (3, 1, 3, 1)), ("a", "z", (4, -1, 4, -1))):
            self.assertEqual(after(self.plain, self.turned, START, x, y), wanted)

    def test_a_level_greater_than_the_rooms(self):
        for level, x, y in ((1, "a", "m"), (1, "a", "A"), (1, "a", "z"), (2, "a", "A"), (2, "a", "z"), (3, "a", "z")):
            for order in (self.plain, self.behind):
                room = (level, 1, level, 1)
                self.assertEqual(after(order, order, room, x, y), room)
                room = (level, -1, level, -1)
                self.assertEqual(after(order, order, room, y, x), room)

    def test_a_level_less_than_the_rooms(self):
        for level, x, y, d in ((2, "a", "b", 1), (3, "a", "b", 1), (4, "a", "b", 1), (3, "a", "m", 2),
                               (4, "a", "m", 2), (4, "a", "A", 3)):
            for order in (self.plain, self.behind):
                self.assertEqual(after(order, order, (level, 1, level, 1), x, y), (d, -1, d, -1))
                self.assertEqual(after(order, order, (level, -1, level, -1), y, x), (d, 1, d, 1))

    def test_the_same_level(self):
        for level, x, y in ((1, "a", "b"), (2, "a", "m"), (3, "a", "A"), (4, "a", "z")):
            for sign in (1, -1):
                room = (level, sign, level, sign)
                self.assertEqual(after(self.plain, self.plain, room, x, y), room)
                self.assertEqual(after(self.plain, self.plain, room, y, x), room)

    def test_the_same_level_from_behind(self):
        for level, x, y in ((1, "a", "b"), (3, "a", "A"), (4, "a", "z")):
            room = (level, 1, level, 1)
            self.assertEqual(after(self.behind, self.behind, room, x, y), room)
        self.assertEqual(after(self.behind, self.behind, (2, 1, 2, 1), "a", "m"), (2, -1, 2, -1))
        self.assertEqual(after(self.behind, self.behind, (2, -1, 2, -1), "m", "a"), (2, 1, 2, 1))
        self.assertEqual(after(self.behind, self.behind, (2, 1, 2, 1), "m", "a"), (2, 1, 2, 1))
        self.assertEqual(after(self.behind, self.behind, (2, 1, 2, 1), "a", "A"), (2, 1, 2, 1))

    def test_each_order_by_its_own_rule(self):
        self.assertEqual(after(self.plain, self.behind, (2, 1, 2, 1), "a", "m"), (2, 1, 2, -1))
        self.assertEqual(after(self.behind, self.plain, (2, 1, 2, 1), "a", "m"), (2, -1, 2, 1))

    def test_each_order_by_its_own_numbers(self):
        self.assertEqual(after(self.plain, self.plain, (1, 1, 4, 1), "a", "m"), (1, 1, 2, -1))
        self.assertEqual(after(self.plain, self.plain, (4, 1, 1, 1), "a", "m"), (2, -1, 1, 1))
        self.assertEqual(after(self.plain, self.plain, (0, 0, 2, 1), "a", "A"), (3, -1, 2, 1))
        self.assertEqual(after(self.plain, self.turned, (0, 0, 2, 1), "a", "b"), (1, -1, 1, 1))

    def test_signs_that_are_alike_at_the_strength_asked(self):
        for strength, x, y in ((1, "a", "m"), (2, "a", "A"), (3, "a", "z")):
            for level in range(strength + 1):
                room = (level, -1, level, -1) if level else START
                self.assertEqual(after(self.behind, self.plain, room, x, y, strength), room)
                self.assertEqual(after(self.behind, self.plain, room, y, x, strength), room)

    def test_the_plain_words_for_each_room(self):
        halves = [(0, 0)] + [(level, sign) for level in (1, 2, 3, 4) for sign in (-1, 1)]
        for one, other in ((self.plain, self.turned), (self.behind, self.plain), (self.turned, self.behind)):
            for x, y in itertools.product(SIGNS, repeat=2):
                for left, right in itertools.product(halves, repeat=2):
                    for strength in range(max(left[0], right[0], 1), 5):
                        wanted = (plain_stand(one, *left, x, y, strength) + plain_stand(other, *right, x, y, strength))
                        got = after(one, other, left + right, x, y, strength)
                        self.assertEqual(got, wanted, (left, right, x, y, strength))

    def test_a_room_tells_how_two_texts_stand(self):
        for one, other in ((self.plain, self.turned), (self.behind, self.plain)):
            for strength in (1, 2, 3, 4):
                pairs = list(itertools.product("abAmz", repeat=2))
                moves = {pair: differences(one, other, *pair, strength) for pair in pairs}
                # Of the ways of three steps only some, as there are so many.
                for way in [*itertools.product(pairs, repeat=2), *list(itertools.product(pairs, repeat=3))[::11]]:
                    room = START
                    for pair in way:
                        room = goes_on(one, other, room, moves[pair])
                    texts = ["".join(signs) for signs in zip(*way)]
                    self.assertEqual(room, put_by(one, *texts, strength) + put_by(other, *texts, strength), texts)

    def test_rooms_are_tuples_of_whole_numbers(self):
        room = after(self.plain, self.behind, START, "a", "m")
        self.assertIs(type(room), tuple)
        self.assertEqual([type(number) for number in room], [int] * 4)

    def test_what_may_be_left_out(self):
        self.assertEqual(str(inspect.signature(difference)), "(order, x, y, strength=4)")
        self.assertEqual(str(inspect.signature(differences)), "(one, other, x, y, strength=4)")


class Parting(unittest.TestCase):
    def check(self, room, otherwise, uneven):
        for told, wanted in ((is_otherwise(room), otherwise), (is_uneven(room), uneven),
                             (is_parted(room), otherwise or uneven)):
            self.assertIs(told, wanted, room)

    def test_both_alike(self):
        self.check(START, False, False)
        for level in (1, 2, 3, 4):
            self.check((level, 1, level, 1), False, False)
            self.check((level, -1, level, -1), False, False)
        for levels in itertools.product((2, 3, 4), repeat=2):
            self.check((levels[0], 1, levels[1], 1), False, False)

    def test_the_signs_differ(self):
        for level in (1, 2, 3, 4):
            self.check((level, 1, level, -1), True, False)
            self.check((level, -1, level, 1), True, False)
        for room in ((0, 0, 2, 1), (3, -1, 0, 0), (2, 1, 3, -1)):
            self.check(room, True, False)

    def test_level_1_in_one_order_alone(self):
        for level in (2, 3, 4):
            self.check((1, 1, level, 1), False, True)
            self.check((level, -1, 1, -1), False, True)
            self.check((1, 1, level, -1), True, True)
        self.check((1, 1, 0, 0), True, True)
        self.check((0, 0, 1, -1), True, True)

    def test_a_text_that_goes_on_alone(self):
        """Two texts whose room is uneven part with one sign more of the text that is before."""
        one, other = order_of("row a b", "great a A"), order_of("row a A b")
        room = goes_on(one, other, START, differences(one, other, "a", "A"))
        self.assertEqual(room, (3, -1, 1, -1))
        self.assertTrue(is_parted(room))
        self.assertEqual((compare(one, "ab", "A"), compare(other, "ab", "A")), (1, -1))


class Walked(unittest.TestCase):
    """The rooms that are come to from the first one tell whether two orders part, and how far on."""

    PAIRS = [(["row a b c"], ["row a c b"], "abc"), (["row a b c"], ["row a b c"], "abc"),
             (["row a b", "great a c"], ["row a c b"], "abc"), (["row a b", "great a c"], ["row a b", "as c a"], "abc"),
             (["row a", "great a b"], ["row a", "as b a '", "marks '"], "ab"), (PLAIN, BEHIND, "am"),
             (PLAIN, BEHIND, "aA"), (BEHIND, BEHIND, "aAm"), (PLAIN, TURNED, "amn"), (PLAIN, TURNED, "aAz"),
             (["row a c", "great a b"], ["row a c", "as b a '", "marks '"], "abc"), (PLAIN, PLAIN, "")]

    def steps_to_part(self, one, other, signs, strength):
        """How many signs the longer text has at least, by rooms; None where all rooms are walked and none parts."""
        moves = [differences(one, other, x, y, strength) for x in signs for y in signs]
        walked, newest, length = {START}, {START}, 0
        while newest:
            if any(is_otherwise(room) for room in newest):
                return length
            uneven = any(is_uneven(room) for room in newest)
            newest = {goes_on(one, other, room, move) for room in newest for move in moves} - walked
            walked |= newest
            length += 1
            if uneven:
                return length
        return None

    def signs_to_part(self, one, other, signs, strength):
        """The same by comparing all texts of at most three signs."""
        texts = ["".join(text) for size in range(4) for text in itertools.product(signs, repeat=size)]
        lengths = [max(len(x), len(y)) for x in texts for y in texts
                   if compare(one, x, y, strength) != compare(other, x, y, strength)]
        return min(lengths, default=None)

    def test_by_rooms_and_by_comparing(self):
        told = set()
        for one, other, signs in self.PAIRS:
            orders = order_of(*one), order_of(*other)
            for strength in (1, 2, 3, 4):
                length = self.steps_to_part(*orders, signs, strength)
                self.assertEqual(length, self.signs_to_part(*orders, signs, strength), (one, other, strength))
                told.add(length)
        self.assertEqual(told, {None, 1, 2})


if __name__ == "__main__":
    unittest.main()
