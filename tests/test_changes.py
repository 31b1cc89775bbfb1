"""Points 30 and 31: what can be kept of one turn in another, and the rules that lead there."""

import inspect
import itertools
import random
import unittest

from sortlore.changes import change, kept_most
from sortlore.orders import Order
from sortlore.rules import changed, read_rule, show_rule
from sortlore.units import units

THINGS = [one + other for one in "abcdefghijklmnopqrst" for other in "abcdefghijklmnopqrst"]


def order_of(*lines):
    return Order([read_rule(line) for line in lines])


def in_one_turn(things, full):
    """Whether these things come one behind the other in the full list."""
    places = [full.index(thing) for thing in things]
    return places == sorted(set(places))


def plain_most(one, other):
    """How many things can be kept at most, by looking at all choices."""
    for count in range(len(one), 0, -1):
        for choice in itertools.combinations(one, count):
            if in_one_turn(choice, other):
                return count
    return 0


class KeptMost(unittest.TestCase):
    def check(self, one, other):
        before = (list(one), list(other))
        answer = kept_most(one, other)
        self.assertEqual((one, other), before)
        self.assertIs(type(answer), tuple)
        self.assertEqual(len(answer), 2)
        kept, groups = answer
        self.assertIs(type(kept), list)
        self.assertTrue(in_one_turn(kept, one), kept)
        self.assertTrue(in_one_turn(kept, other), kept)
        self.check_groups(one, other, groups)
        self.assertEqual(len(groups), len(kept))
        return kept

    def check_groups(self, one, other, groups):
        self.assertIs(type(groups), list)
        first = {thing: place for place, thing in enumerate(one)}
        second = {thing: place for place, thing in enumerate(other)}
        for group in groups:
            self.assertIs(type(group), list)
            self.assertTrue(group)
            for x, y in itertools.combinations(group, 2):
                self.assertNotEqual(first[x] < first[y], second[x] < second[y], group)
        self.assertEqual(sorted(itertools.chain.from_iterable(groups)), sorted(one))

    def test_plain_ones(self):
        self.assertEqual(kept_most(["a", "b", "c"], ["a", "c", "b"])[0][0], "a")
        self.assertEqual(len(self.check(["a", "b", "c"], ["a", "c", "b"])), 2)
        self.assertEqual(self.check(["a", "b", "c", "d"], ["d", "a", "b", "c"]), ["a", "b", "c"])
        self.assertEqual(self.check(["a", "b", "c", "d"], ["b", "c", "d", "a"]), ["b", "c", "d"])
        self.assertEqual(self.check(["c", "a", "d", "b"], ["a", "d", "b", "c"]), ["a", "d", "b"])

    def test_equal_lists(self):
        for count in range(8):
            things = THINGS[:count]
            self.assertEqual(self.check(things, list(things)), things)
            self.assertEqual(sorted(kept_most(things, things)[1]), [[thing] for thing in things])

    def test_lists_turned_about(self):
        for count in range(1, 8):
            things = THINGS[:count]
            self.assertEqual(len(self.check(things, things[::-1])), 1)
            self.assertEqual([sorted(group) for group in kept_most(things, things[::-1])[1]], [things])

    def test_no_things(self):
        self.assertEqual(kept_most([], []), ([], []))

    def test_one_thing(self):
        self.assertEqual(kept_most(["a"], ["a"]), (["a"], [["a"]]))

    def test_any_texts_are_things(self):
        self.assertEqual(kept_most(["", "x y", "abc"], ["", "x y", "abc"])[0], ["", "x y", "abc"])
        self.assertEqual(self.check(["b", "", "a"], ["", "a", "b"]), ["", "a"])
        self.check(["order", "", " "], [" ", "", "order"])

    def test_all_turns_of_a_few_things(self):
        for count in range(7):
            things = THINGS[:count]
            for turn in itertools.permutations(things):
                kept = self.check(things, list(turn))
                self.assertEqual(len(kept), plain_most(things, turn))

    def test_either_list_may_be_in_any_turn(self):
        for one in itertools.permutations("abcd"):
            for other in itertools.permutations("abcd"):
                self.assertEqual(len(self.check(list(one), list(other))), plain_most(one, other))

    def test_three_hundred_things(self):
        things = THINGS[:300]
        self.assertEqual(self.check(things, list(things)), things)
        self.assertEqual(len(self.check(things, things[::-1])), 1)
        self.assertEqual(self.check(things, things[1:] + things[:1]), things[1:])
        self.assertEqual(len(self.check(things, things[150:] + things[:150])), 150)
        self.assertEqual(len(self.check(things, things[::2] + things[1::2])), 151)
        chance = random.Random(30)
        for count in range(5):
            one, other = things[:], things[:]
            chance.shuffle(one)
            chance.shuffle(other)
            self.check(one, other)

    def test_the_lists_are_the_askers_own(self):
        one, other = ["a", "b", "c"], ["a", "b", "c"]
        kept, groups = kept_most(one, other)
        kept.clear()
        for group in groups:
            group.append("z")
        groups.clear()
        self.assertEqual((one, other), (["a", "b", "c"], ["a", "b", "c"]))
        self.assertEqual(kept_most(one, other)[0], ["a", "b", "c"])
        self.check(one, other)

    def test_what_is_done_to_the_lists_later_changes_nothing(self):
        one, other = ["a", "b"], ["a", "b"]
        kept, groups = kept_most(one, other)
        one.append("c")
        other.clear()
        self.assertEqual((kept, sorted(groups)), (["a", "b"], [["a"], ["b"]]))

    def test_its_arguments(self):
        self.assertEqual(str(inspect.signature(kept_most)), "(one, other)")
        self.assertEqual(str(inspect.signature(change)), "(one, other)")


class Change(unittest.TestCase):
    def check(self, one, other):
        """The letters that a change moves."""
        before = (list(one), list(other))
        rules = change(one, other)
        self.assertEqual((one, other), before)
        self.assertIs(type(rules), list)
        if one == other:
            self.assertEqual(rules, [])
            return []
        self.assertEqual([type(rule) for rule in rules], [tuple, tuple])
        self.assertEqual(rules[1], ("row",) + tuple(other))
        self.assertEqual(rules[0][0], "forget")
        moved = list(rules[0][1:])
        self.assertTrue(in_one_turn(moved, one))
        stays = [letter for letter in one if letter not in moved]
        self.assertTrue(in_one_turn(stays, other))
        self.assertEqual(len(stays), len(kept_most(one, other)[0]))
        for rule in rules:
            self.assertEqual(read_rule(show_rule(rule)), rule)
        return moved

    def test_no_rules_where_both_are_equal(self):
        for count in range(5):
            self.assertEqual(change(THINGS[:count], THINGS[:count]), [])

    def test_plain_ones(self):
        self.assertEqual(change(["a", "b", "c", "d"], ["d", "a", "b", "c"]),
                         [("forget", "d"), ("row", "d", "a", "b", "c")])
        self.assertEqual(change(["a", "b", "c", "d"], ["b", "c", "d", "a"]),
                         [("forget", "a"), ("row", "b", "c", "d", "a")])
        self.assertEqual(change(["e", "a", "d", "b", "c"], ["a", "b", "c", "d", "e"]),
                         [("forget", "e", "d"), ("row", "a", "b", "c", "d", "e")])

    def test_turned_about(self):
        self.assertEqual(len(self.check(["a", "b"], ["b", "a"])), 1)
        self.assertEqual(len(self.check(["a", "b", "c", "ch"], ["ch", "c", "b", "a"])), 3)

    def test_all_turns_of_a_few_letters(self):
        for count in range(6):
            for turn in itertools.permutations(THINGS[:count]):
                moved = self.check(THINGS[:count], list(turn))
                self.assertEqual(len(moved), count - plain_most(THINGS[:count], turn))
                self.check(list(turn), THINGS[:count])

    def test_three_hundred_letters(self):
        letters = THINGS[:300]
        wanted = letters[:]
        random.Random(31).shuffle(wanted)
        self.check(letters, wanted)
        self.assertEqual(self.check(letters, letters[1:] + letters[:1]), letters[:1])
        self.check_led([("row",) + tuple(letters)], wanted)
        self.check_led([("row", one, other) for one, other in zip(letters, letters[1:])], wanted)

    def test_the_list_is_the_askers_own(self):
        rules = change(["a", "b"], ["b", "a"])
        wanted = list(rules)
        rules.clear()
        self.assertEqual(change(["a", "b"], ["b", "a"]), wanted)
        change([], []).append(("row", "a"))
        self.assertEqual(change([], []), [])

    def forms(self, order, rules):
        """For each piece that is a great form, the letter that it is one of, and the how-manieth."""
        found = {}
        for rule in rules:
            for piece in rule[2:] if rule[0] == "great" else ():
                self.assertEqual(order.job(piece), "great")
                unit = units(order, piece)[0]
                found[piece] = (order.letters()[unit[1]], unit[3])
        return found

    def check_led(self, rules, wanted):
        """The rules changed by the change make an order with the wanted letters, all else as before."""
        elder = Order(rules)
        led = changed(rules, change(elder.letters(), wanted))
        order = Order(led)
        self.assertEqual(order.letters(), wanted)
        self.assertEqual(order.marks(), elder.marks())
        self.assertEqual(self.forms(order, led), self.forms(elder, rules))
        for piece in elder.known():
            self.assertEqual(order.job(piece), elder.job(piece))
        self.assertEqual((order.figures, order.behind), (elder.figures, elder.behind))

    def test_the_rules_lead_from_the_elder_order_to_the_wanted_one(self):
        tellings = [["row a b c d"], ["row b d", "row a b c", "row c d"], ["row c d", "row a b", "row b c", "row a c"],
                    ["row a", "row b", "row c d"], ["row d", "row c", "row a d", "row b d", "row a b c d"]]
        others = ["marks ' `", "marks ^ '", "great a A", "great d D X", "great a B", "as m a '", "as w d c `", "over .",
                  "figures", "blanks", "behind", "forget a"]
        for telling in tellings:
            rules = [read_rule(line) for line in telling + others]
            for wanted in itertools.permutations("abcd"):
                self.check_led(rules, list(wanted))
                self.check_led(rules[::-1], list(wanted))

    def test_larger_orders(self):
        chance = random.Random(32)
        for count in range(60):
            letters = THINGS[:2 + count // 3]
            chance.shuffle(letters)
            few = [chance.sample(letters, chance.randrange(1, len(letters))) for row in range(6)]
            rows = [("row",) + tuple(sorted(row, key=letters.index)) for row in few]
            known = Order(rows).letters()
            great = [("great", letter, letter[0].upper() + letter[1]) for letter in known[::3]]
            marks = [("marks", "'", "`"), ("as", "@", known[0], "'")]
            wanted = known[:]
            chance.shuffle(wanted)
            self.check_led(great + rows + marks, wanted)


if __name__ == "__main__":
    unittest.main()
