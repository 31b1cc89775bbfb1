"""Points 15 and 16: the parts of a text by an order, and the elements that they make."""

import inspect
import itertools
import unittest

from sortlore.errors import NoSign
from sortlore.keys import key, letters_of
from sortlore.orders import Order
from sortlore.pieces import cut
from sortlore.rules import read_rule
from sortlore.units import parts_of, units

ASKED = {"parts_of": parts_of, "units": units, "key": key, "letters_of": letters_of,
         "key at 1": lambda order, text: key(order, text, 1), "key at 2": lambda order, text: key(order, text, 2),
         "key at 3": lambda order, text: key(order, text, 3), "key at 4": lambda order, text: key(order, text, 4)}


def order_of(*lines):
    return Order([read_rule(line) for line in lines])


class Parts(unittest.TestCase):
    def test_all_pieces_with_a_job(self):
        order = order_of("row a b", "marks '", "great a A", "as x a b", "over -")
        self.assertEqual(parts_of(order, "aA'x-b"), ["a", "A", "'", "x", "-", "b"])

    def test_the_longer_first(self):
        order = order_of("row c h ch", "marks ' ''", "great c C", "great ch CH", "as cx c", "over - --")
        self.assertEqual(parts_of(order, "chcch"), ["ch", "c", "ch"])
        self.assertEqual(parts_of(order, "'''"), ["''", "'"])
        self.assertEqual(parts_of(order, "CHC"), ["CH", "C"])
        self.assertEqual(parts_of(order, "cxc---"), ["cx", "c", "--", "-"])

    def test_the_longer_of_whichever_jobs(self):
        for line in ["row ab", "marks ab", "great a ab", "as ab a", "over ab"]:
            self.assertEqual(parts_of(order_of("row a b", line), "aabb"), ["a", "ab", "b"])

    def test_from_the_left(self):
        self.assertEqual(parts_of(order_of("row a b ab bb"), "abbb"), ["ab", "bb"])
        self.assertEqual(parts_of(order_of("row a b ba"), "abab"), ["a", "ba", "b"])

    def test_figures_by_worth(self):
        order = order_of("figures", "row a", "over -")
        self.assertEqual(parts_of(order, "a12-3a007"), ["a", "12", "-", "3", "a", "007"])
        self.assertEqual(parts_of(order, "0"), ["0"])
        self.assertEqual(parts_of(order_of("figures"), "0123456789"), ["0123456789"])

    def test_figures_as_other_signs(self):
        order = order_of("row 1 2 12", "over 0")
        self.assertEqual(parts_of(order, "11201"), ["1", "12", "0", "1"])

    def test_the_blank(self):
        order = order_of("row a", "blanks")
        self.assertEqual(parts_of(order, "  a a "), [" ", " ", "a", " ", "a", " "])
        self.assertEqual(parts_of(order_of("blanks", "figures"), "1 2"), ["1", " ", "2"])

    def test_the_text_without_signs(self):
        for lines in ([], ["row a"], ["blanks", "figures", "behind"]):
            self.assertEqual(parts_of(order_of(*lines), ""), [])

    def test_the_interface(self):
        self.assertEqual(str(inspect.signature(parts_of)), "(order, text)")
        self.assertEqual(str(inspect.signature(units)), "(order, text)")


class NoSigns(unittest.TestCase):
    def refused(self, at, text, *lines):
        for name, asked in ASKED.items():
            with self.assertRaises(NoSign, msg=(name, text)) as caught:
                asked(order_of(*lines), text)
            self.assertEqual(caught.exception.at, at, (name, text))
            self.assertIs(type(caught.exception.at), int)

    def test_another_sign(self):
        self.refused(0, "b", "row a")
        self.refused(2, "aab", "row a")
        self.refused(1, "abcb", "row a")
        self.refused(0, "A", "row a")
        self.refused(0, "a")

    def test_behind_longer_parts(self):
        self.refused(3, "cha?", "row a ch")
        self.refused(2, "ch?ch?", "row ch")
        self.refused(4, "1234b", "row a", "figures")

    def test_half_of_a_piece(self):
        self.refused(0, "c", "row ch")
        self.refused(2, "chc", "row ch")
        self.refused(1, "ab", "row a bc")
        self.refused(0, "bab", "row a ab")

    def test_the_blank_without_a_blanks_rule(self):
        self.refused(1, "a a", "row a")
        self.refused(0, " ", "row a", "over -")
        self.refused(0, " ")

    def test_figures_without_a_figures_rule(self):
        self.refused(1, "a1", "row a")
        self.refused(1, "12", "row 1")

    def test_where_the_answer_would_not_hang_on_it(self):
        self.refused(2, "--?", "row a", "over -")
        self.refused(2, "a ?", "row a", "blanks")

    def test_pieces_of_forget_rules(self):
        self.refused(1, "ab", "row a", "forget b")

    def test_signs_that_stand_in_no_piece(self):
        lines = ["row a", "figures", "blanks"]
        for sign in ["%", "\n", "\t", "\xe4", "\u0661", "\u00b2"]:
            self.refused(1, "a" + sign, *lines)
            self.refused(1, "1" + sign, *lines)

    def test_far_behind(self):
        self.refused(299, "a" * 299 + "?", "row a")


class Units(unittest.TestCase):
    def check(self, order, text, wanted):
        got = units(order, text)
        self.assertEqual(got, wanted, text)
        self.assertIs(type(got), list)
        for unit in got:
            self.assertIs(type(unit), tuple)
            self.assertEqual([type(thing) for thing in unit], [int, int, tuple, int])
            self.assertTrue(all(type(place) is int for place in unit[2]))

    def test_letters(self):
        order = order_of("row c a", "row b c", "row ch")
        self.check(order, "abcch", [(2, 2, (), 0), (2, 0, (), 0), (2, 1, (), 0), (2, 3, (), 0)])

    def test_great_forms(self):
        order = order_of("row a b", "great b B", "great a A")
        self.check(order, "aABb", [(2, 0, (), 0), (2, 0, (), 1), (2, 1, (), 1), (2, 1, (), 0)])

    def test_great_forms_over_several_rules(self):
        order = order_of("great b 1 2", "row a b", "great a 3", "great b 4", "great a 5 6", "great b 7")
        wanted = {"1": (1, 1), "2": (1, 2), "4": (1, 3), "7": (1, 4), "3": (0, 1), "5": (0, 2), "6": (0, 3)}
        for sign, (place, case) in wanted.items():
            self.check(order, sign, [(2, place, (), case)])

    def test_runs_of_figures(self):
        order = order_of("row a", "figures", "over -")
        self.check(order, "a12a0", [(2, 0, (), 0), (1, 12, (), 0), (2, 0, (), 0), (1, 0, (), 0)])
        self.check(order, "12-12", [(1, 12, (), 0), (1, 12, (), 0)])

    def test_figures_with_0_ahead(self):
        order = order_of("figures")
        for text, worth in [("0", 0), ("000", 0), ("007", 7), ("0100", 100), ("10", 10), ("9", 9)]:
            self.check(order, text, [(1, worth, (), 0)])

    def test_great_runs_of_figures(self):
        order = order_of("figures", "row a")
        self.check(order, "9" * 300, [(1, 10 ** 300 - 1, (), 0)])
        self.check(order, "0" * 299 + "5", [(1, 5, (), 0)])
        self.check(order, "1" + "0" * 298 + "a", [(1, 10 ** 298, (), 0), (2, 0, (), 0)])

    def test_figures_without_the_rule_are_letters(self):
        order = order_of("row 1 2 12")
        self.check(order, "1212", [(2, 2, (), 0)] * 2)
        self.check(order, "21", [(2, 1, (), 0), (2, 0, (), 0)])

    def test_counting_pieces(self):
        order = order_of("row a b c", "as x b", "as y c a", "as zz a a b")
        self.check(order, "x", [(2, 1, (), 0)])
        self.check(order, "yx", [(2, 2, (), 0), (2, 0, (), 0), (2, 1, (), 0)])
        self.check(order, "zzb", [(2, 0, (), 0), (2, 0, (), 0), (2, 1, (), 0), (2, 1, (), 0)])

    def test_counting_pieces_told_ahead_of_their_parts(self):
        order = order_of("as x b ' a", "marks ` '", "row a b")
        self.check(order, "x", [(2, 1, (1,), 0), (2, 0, (), 0)])

    def test_counting_pieces_with_marks(self):
        order = order_of("row a b", "marks ' ` ,", "as x a `", "as y a ' , b", "as z b a ` `")
        self.check(order, "x", [(2, 0, (1,), 0)])
        self.check(order, "y", [(2, 0, (0, 2), 0), (2, 1, (), 0)])
        self.check(order, "z", [(2, 1, (), 0), (2, 0, (1, 1), 0)])
        self.check(order, "x'", [(2, 0, (1, 0), 0)])
        self.check(order, "y'", [(2, 0, (0, 2), 0), (2, 1, (0,), 0)])
        self.check(order, "'x'", [(0, 0, (0,), 0), (2, 0, (1, 0), 0)])
        self.check(order, "axa", [(2, 0, (), 0), (2, 0, (1,), 0), (2, 0, (), 0)])

    def test_marks_behind_elements_of_each_kind(self):
        order = order_of("row a b", "marks ' `", "great b B", "figures", "as x a b")
        self.check(order, "a`", [(2, 0, (1,), 0)])
        self.check(order, "B'a", [(2, 1, (0,), 1), (2, 0, (), 0)])
        self.check(order, "07`", [(1, 7, (1,), 0)])
        self.check(order, "x`", [(2, 0, (), 0), (2, 1, (1,), 0)])

    def test_several_marks_behind_one_element(self):
        order = order_of("row a", "marks ' `")
        self.check(order, "a'`'", [(2, 0, (0, 1, 0), 0)])
        self.check(order, "a`'a''", [(2, 0, (1, 0), 0), (2, 0, (0, 0), 0)])

    def test_marks_at_the_beginning(self):
        order = order_of("row a b", "marks ' `", "over -", "blanks", "figures")
        self.check(order, "`", [(0, 0, (1,), 0)])
        self.check(order, "`'`", [(0, 0, (1, 0, 1), 0)])
        self.check(order, "'b'", [(0, 0, (0,), 0), (2, 1, (0,), 0)])
        self.check(order, "- `-'", [(0, 0, (1, 0), 0)])
        self.check(order, "'5`", [(0, 0, (0,), 0), (1, 5, (1,), 0)])

    def test_what_is_passed_over_makes_nothing(self):
        order = order_of("row a", "marks '", "over - ''", "blanks")
        self.check(order, "-", [])
        self.check(order, "- '' -", [])
        self.check(order, "-a-a ", [(2, 0, (), 0), (2, 0, (), 0)])

    def test_marks_behind_what_is_passed_over(self):
        order = order_of("row a b", "marks ' `", "over -", "blanks")
        self.check(order, "a-'", [(2, 0, (0,), 0)])
        self.check(order, "a' -`b", [(2, 0, (0, 1), 0), (2, 1, (), 0)])

    def test_the_text_without_signs(self):
        for lines in ([], ["row a"], ["figures", "blanks", "behind", "marks '"]):
            self.check(order_of(*lines), "", [])

    def test_behind_changes_nothing_here(self):
        lines = ["row a b", "marks ' `"]
        for text in ["a'`b`", "'a", "ab"]:
            self.check(order_of(*lines, "behind"), text, units(order_of(*lines), text))

    def test_long_texts(self):
        order = order_of("row a", "marks '", "as x " + "a " * 19 + "'", "as y a" + " '" * 19)
        self.check(order, "x" * 300, ([(2, 0, (), 0)] * 18 + [(2, 0, (0,), 0)]) * 300)
        self.check(order, "y" * 300, [(2, 0, (0,) * 19, 0)] * 300)
        self.check(order, "'" * 300, [(0, 0, (0,) * 300, 0)])
        self.check(order, "a" + "'" * 299, [(2, 0, (0,) * 299, 0)])


LINES = ["row b a", "marks ` '", "great a A", "great b B", "great a AA", "as x a b", "as y b ' a ` '", "over -"]
LETTERS = {"b": (0, 0), "a": (1, 0), "A": (1, 1), "B": (0, 1), "AA": (1, 2)}
COUNTS = {"x": ["a", "b"], "y": ["b", "'", "a", "`", "'"]}


def plain_units(parts):
    """The elements as point 16 tells them, for LINES with figures and blanks."""
    made = []
    for part in parts:
        if part in COUNTS:
            # The last made ahead may get marks, so the parts are put behind all that was made.
            made = join(made, plain_units(COUNTS[part]))
        elif part in "`'":
            made = join(made, [(0, 0, ("`'".index(part),), 0)])
        elif part.isdigit():
            made = made + [(1, int(part), (), 0)]
        elif part in LETTERS:
            made = made + [(2, LETTERS[part][0], (), LETTERS[part][1])]
    return made


def join(made, more):
    """More elements behind others; the marks of a first one that is all marks go to the last of these."""
    if not made or not more or more[0][0] != 0:
        return made + more
    kind, worth, marks, case = made[-1]
    return made[:-1] + [(kind, worth, marks + more[0][2], case)] + more[1:]


class AgainstTheWords(unittest.TestCase):
    def test_all_short_texts(self):
        order = order_of(*LINES, "figures", "blanks")
        known = ["a", "b", "`", "'", "A", "B", "AA", "x", "y", "-", " "]
        for size in range(5):
            for signs in itertools.product("aAB`'xy- 07", repeat=size):
                text = "".join(signs)
                parts = parts_of(order, text)
                self.assertEqual(parts, cut(known, text, True), text)
                self.assertEqual(units(order, text), plain_units(parts), text)


class Kept(unittest.TestCase):
    def test_each_list_is_the_askers_own(self):
        order = order_of(*LINES, "figures")
        for asked in (parts_of, units):
            got = asked(order, "'ay12A'x")
            wanted = list(got)
            got.append("z")
            got[0] = "q"
            self.assertEqual(asked(order, "'ay12A'x"), wanted)
            asked(order, "").append("z")
            self.assertEqual(asked(order, ""), [])

    def test_rules_that_are_changed_behind_change_nothing(self):
        rules = [read_rule(line) for line in LINES]
        order = Order(rules)
        before = list(parts_of(order, "'ayAA'x")), list(units(order, "'ayAA'x"))
        rules[0] = ("row", "a", "b")
        rules.append(("over", "z"))
        rules.append(("figures",))
        self.assertEqual((parts_of(order, "'ayAA'x"), units(order, "'ayAA'x")), before)
        for text in ["z", "1"]:
            self.assertRaises(NoSign, units, order, text)
        rules.clear()
        self.assertEqual((parts_of(order, "'ayAA'x"), units(order, "'ayAA'x")), before)

    def test_told_lists_that_are_changed_change_nothing(self):
        order = order_of("row a b", "marks ' `")
        before = list(units(order, "a`b'"))
        order.letters().reverse()
        order.marks().clear()
        self.assertEqual(units(order, "a`b'"), before)

    def test_asking_changes_nothing_in_the_order(self):
        order = order_of(*LINES, "figures", "blanks")
        before = self.told(order)
        for text in ["'ay12A'x", "", "ab", "1 2"]:
            parts_of(order, text)
            units(order, text)
            self.assertRaises(NoSign, units, order, text + "z")
        self.assertEqual(self.told(order), before)

    def told(self, order):
        jobs = [order.job(piece) for piece in ["12", "a", " ", "z", "ab"]]
        return list(order.letters()), list(order.marks()), jobs


if __name__ == "__main__":
    unittest.main()
