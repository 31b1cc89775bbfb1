"""Points 24 and 25: the joints of a text, and where one text is found in another."""

import inspect
import itertools
import unittest

from sortlore.errors import NoSign
from sortlore.finds import found_in, joints
from sortlore.going import compare
from sortlore.orders import Order
from sortlore.pieces import starts
from sortlore.rules import read_rule
from sortlore.units import parts_of

LINES = ["row a b ab", "marks ' `", "great a A", "as x b `", "as y a b", "over -", "blanks", "figures"]


def order_of(*lines):
    return Order([read_rule(line) for line in lines])


def texts_of(signs, size):
    """All texts of these signs up to a length."""
    return ["".join(text) for length in range(size + 1) for text in itertools.product(signs, repeat=length)]


def plain_joints(order, text):
    """Point 24's own words."""
    parts = parts_of(order, text)
    places = {starts(parts)[at] for at, part in enumerate(parts) if part not in order.marks()}
    return sorted(places | {0, len(text)})


def plainly_found(order, one, other, strength):
    """Point 25's own words: each two joints, from not above to, and what stands between them compared."""
    places = plain_joints(order, other)
    return [(start, end) for start in places for end in places
            if start <= end and compare(order, one, other[start:end], strength) == 0]


class Joints(unittest.TestCase):
    def check(self, order, text, wanted):
        got = joints(order, text)
        self.assertEqual(got, wanted, text)
        self.assertIs(type(got), list)
        self.assertTrue(all(type(place) is int for place in got))

    def test_letters(self):
        order = order_of("row a b ch", "great a A")
        self.check(order, "ab", [0, 1, 2])
        self.check(order, "achAb", [0, 1, 3, 4, 5])
        self.check(order, "ch", [0, 2])

    def test_marks(self):
        order = order_of("row a b", "marks ' `` `")
        self.check(order, "'ab", [0, 1, 2, 3])
        self.check(order, "a'b", [0, 2, 3])
        self.check(order, "ab'", [0, 1, 3])
        self.check(order, "a'`'b", [0, 4, 5])
        self.check(order, "'`a", [0, 2, 3])
        self.check(order, "ab'``", [0, 1, 5])
        self.check(order, "'", [0, 1])
        self.check(order, "```", [0, 3])
        self.check(order, "'a'b'a'", [0, 1, 3, 5, 7])

    def test_runs_of_figures(self):
        order = order_of("row a", "figures", "marks '")
        self.check(order, "12", [0, 2])
        self.check(order, "a12a007", [0, 1, 3, 4, 7])
        self.check(order, "12'34", [0, 3, 5])
        self.check(order, "'12", [0, 1, 3])

    def test_figures_as_other_signs(self):
        self.check(order_of("row 1 2", "marks 0"), "12010", [0, 1, 3, 5])

    def test_what_is_passed_over(self):
        order = order_of("row a", "over - --", "blanks", "marks '")
        self.check(order, "a a", [0, 1, 2, 3])
        self.check(order, " a ", [0, 1, 2, 3])
        self.check(order, "---a", [0, 2, 3, 4])
        self.check(order, "a-'a", [0, 1, 3, 4])
        self.check(order, " '", [0, 2])
        self.check(order, "' '", [0, 1, 3])
        self.check(order, "  ", [0, 1, 2])

    def test_counting_pieces(self):
        order = order_of("row a", "marks '", "as x a ' '", "as yy a a")
        self.check(order, "xyyax'x", [0, 1, 3, 4, 6, 7])

    def test_the_text_without_signs(self):
        for lines in ([], LINES):
            self.check(order_of(*lines), "", [0])

    def test_each_once_and_rising(self):
        for lines in (LINES, ["row a ab", "marks ' b `", "over - x y 0 1", "great a A"]):
            order = order_of(*lines)
            for text in texts_of("abA'-0", 4):
                self.check(order, text, plain_joints(order, text))
                told = joints(order, text)
                self.assertEqual(told, sorted(set(told)))

    def test_no_sign(self):
        order = order_of("row a", "marks '", "figures")
        for text, at in (("?", 0), ("a?", 1), ("'?", 1), ("12 ", 2), ("a" * 299 + "b", 299)):
            with self.assertRaises(NoSign) as caught:
                joints(order, text)
            self.assertEqual(caught.exception.at, at)

    def test_each_list_is_the_askers_own(self):
        order = order_of("row a", "marks '")
        for text, wanted in (("", [0]), ("a'a", [0, 2, 3])):
            told = joints(order, text)
            told.append(9)
            told[0] = 8
            self.assertEqual(joints(order, text), wanted)

    def test_the_interface(self):
        self.assertEqual(str(inspect.signature(joints)), "(order, text)")


class Found(unittest.TestCase):
    def check(self, order, one, other, *wanted):
        """What is told at strengths 1, 2, 3, 4."""
        for strength, places in enumerate(wanted, 1):
            got = found_in(order, one, other, strength)
            self.assertEqual(got, places, (one, other, strength))
            self.assertIs(type(got), list)
            for place in got:
                self.assertIs(type(place), tuple)
                self.assertEqual([type(number) for number in place], [int, int])
            self.assertEqual(got, sorted(set(got)))
        self.assertEqual(found_in(order, one, other), wanted[3])
        self.assertEqual(found_in(order, one, other, strength=2), wanted[1])

    def test_letters(self):
        order = order_of("row a b")
        self.check(order, "ab", "abaabb", *[[(0, 2), (3, 5)]] * 4)
        self.check(order, "a", "bbb", *[[]] * 4)
        self.check(order, "ab", "a", *[[]] * 4)
        self.check(order, "a", "a", *[[(0, 1)]] * 4)
        self.check(order, "a", "", *[[]] * 4)

    def test_each_strength(self):
        order = order_of("row a b", "great a A", "marks '", "over -")
        self.check(order, "a", "baAba'bA'b-a",
                   [(1, 2), (2, 3), (4, 6), (7, 9), (10, 12), (11, 12)], [(1, 2), (2, 3), (10, 12), (11, 12)],
                   [(1, 2), (10, 12), (11, 12)], [(1, 2), (11, 12)])
        self.check(order, "A'", "aA'A-'a'A''",
                   [(0, 1), (1, 3), (3, 4), (3, 6), (6, 8), (8, 11)], [(1, 3), (3, 6), (6, 8)], [(1, 3), (3, 6)],
                   [(1, 3)])

    def test_letters_of_two_signs(self):
        order = order_of("row c h ch a")
        self.check(order, "c", "chcach", *[[(2, 3)]] * 4)
        self.check(order, "h", "chha", *[[(2, 3)]] * 4)
        self.check(order, "ch", "cchch", *[[(1, 3), (3, 5)]] * 4)

    def test_places_that_overlap(self):
        order = order_of("row a b", "over -")
        self.check(order, "aa", "aaaa", *[[(0, 2), (1, 3), (2, 4)]] * 4)
        self.check(order, "aba", "ababa", *[[(0, 3), (2, 5)]] * 4)
        self.check(order, "a", "-a-", *[[(0, 2), (0, 3), (1, 2), (1, 3)]] * 3, [(1, 2)])

    def test_places_of_no_length(self):
        order = order_of("row a b", "marks '", "over -")
        self.check(order, "", "", *[[(0, 0)]] * 4)
        self.check(order, "", "ab", *[[(0, 0), (1, 1), (2, 2)]] * 4)
        self.check(order, "", "a'b", *[[(0, 0), (2, 2), (3, 3)]] * 4)
        self.check(order, "", "'", *[[(0, 0), (1, 1)]] * 4)
        self.check(order, "", "a-b", *[[(0, 0), (1, 1), (1, 2), (2, 2), (3, 3)]] * 3,
                   [(0, 0), (1, 1), (2, 2), (3, 3)])
        self.check(order, "-", "a-b", *[[(0, 0), (1, 1), (1, 2), (2, 2), (3, 3)]] * 3, [(1, 2)])
        self.check(order, "-", "", *[[(0, 0)]] * 3, [])

    def test_what_is_passed_over_at_either_end(self):
        order = order_of("row a b", "over -", "blanks")
        self.check(order, "a", "b- a -b", *[[(1, 4), (1, 5), (1, 6), (2, 4), (2, 5), (2, 6), (3, 4), (3, 5),
                                             (3, 6)]] * 3, [(3, 4)])
        self.check(order, "ab", "a-b", *[[(0, 3)]] * 3, [])
        self.check(order, "a-b", "ab", *[[(0, 2)]] * 3, [])
        self.check(order, " a", "b- a", *[[(1, 4), (2, 4), (3, 4)]] * 3, [(2, 4)])

    def test_marks_behind_a_place(self):
        order = order_of("row a b", "marks ' `")
        self.check(order, "a", "a'", [(0, 2)], [], [], [])
        self.check(order, "a'", "a'`b", [(0, 3)], [], [], [])
        self.check(order, "a'", "a'ba`ba'", [(0, 2), (3, 5), (6, 8)], *[[(0, 2), (6, 8)]] * 3)
        self.check(order, "ab", "a'bab'ab", [(0, 3), (3, 6), (6, 8)], *[[(6, 8)]] * 3)

    def test_marks_ahead_of_a_place(self):
        order = order_of("row a b", "marks ' `", "over -")
        self.check(order, "b", "a'b", *[[(2, 3)]] * 4)
        self.check(order, "'b", "a'b", *[[]] * 4)
        self.check(order, "'", "'a", *[[(0, 1)]] * 4)
        self.check(order, "'", "a'", *[[]] * 4)
        self.check(order, "'a", "'a", *[[(0, 2)]] * 4)
        self.check(order, "a", "'a", *[[(1, 2)]] * 4)
        self.check(order, "`", "'a", [(0, 1)], [], [], [])

    def test_marks_behind_what_is_passed_over(self):
        order = order_of("row a b", "marks '", "over -")
        self.check(order, "a", "a-'b", [(0, 1), (0, 3)], [(0, 1)], [(0, 1)], [(0, 1)])
        self.check(order, "a'", "a-'b", [(0, 1), (0, 3)], [(0, 3)], [(0, 3)], [])
        self.check(order, "'", "a-'b", [(1, 3)], [(1, 3)], [(1, 3)], [])
        self.check(order, "-'", "a-'b", [(1, 3)], [(1, 3)], [(1, 3)], [(1, 3)])
        self.check(order, "'b", "a-'b", [(1, 4)], [(1, 4)], [(1, 4)], [])
        self.check(order, "b", "a-'b", *[[(3, 4)]] * 4)

    def test_marks_from_behind(self):
        order = order_of("row a b", "marks ' `", "behind")
        self.check(order, "a'b`", "a'b`a`b'", [(0, 4), (4, 8)], *[[(0, 4)]] * 3)

    def test_figures_by_worth(self):
        order = order_of("row a", "figures")
        self.check(order, "7", "7a07a77", *[[(0, 1), (2, 4)]] * 3, [(0, 1)])
        self.check(order, "1", "12", *[[]] * 4)
        self.check(order, "2", "12", *[[]] * 4)
        self.check(order, "0", "00", *[[(0, 2)]] * 3, [])
        self.check(order, "a1", "a12a1a01", *[[(3, 5), (5, 8)]] * 3, [(3, 5)])

    def test_counting_pieces(self):
        order = order_of("row a b", "marks '", "as x a b", "as y a '")
        self.check(order, "ab", "xabx", *[[(0, 1), (1, 3), (3, 4)]] * 3, [(1, 3)])
        self.check(order, "x", "xabx", *[[(0, 1), (1, 3), (3, 4)]] * 3, [(0, 1), (3, 4)])
        self.check(order, "a", "xa", *[[(1, 2)]] * 4)
        self.check(order, "b", "x", *[[]] * 4)
        self.check(order, "aba", "axaba", *[[(1, 3), (2, 5)]] * 3, [(2, 5)])
        self.check(order, "y", "ya'a", [(0, 1), (1, 3), (3, 4)], [(0, 1), (1, 3)], [(0, 1), (1, 3)], [(0, 1)])

    def test_the_strength_left_out_is_4(self):
        order = order_of("row a", "over -")
        self.assertEqual(found_in(order, "a", "-a"), [(1, 2)])
        self.assertEqual(found_in(order, "a", "-a", 4), [(1, 2)])
        self.assertEqual(found_in(order, "a", "-a", 3), [(0, 2), (1, 2)])

    def test_all_places_and_no_others(self):
        for lines in (LINES, LINES + ["behind"]):
            order = order_of(*lines)
            ones = texts_of("abA'-", 1) + ["y", "x", "1", "ab", "a'", "-'", "b`", "'`", "a-'", "aA", "''", "b'`", "aa"]
            for other in texts_of("abA'`-", 3) + texts_of("ay1-'", 3):
                for one in ones[::3] if len(other) == 3 else ones:
                    for strength in (1, 2, 3, 4):
                        self.assertEqual(found_in(order, one, other, strength),
                                         plainly_found(order, one, other, strength), (one, other, strength))

    def test_all_places_in_longer_texts(self):
        for lines in (LINES, LINES + ["behind"]):
            order = order_of(*lines)
            for other in ("a'-A'b-ab'`y1 01'a", "'-'-a-'-'a", "yx-ybb`ab`'a b", "--aa--aa'--'aA", "`'y-'x`01a1 a"):
                ones = {other[start:end] for start in range(len(other)) for end in range(start, start + 6)}
                for one in sorted(ones):
                    for strength in (1, 2, 3, 4):
                        self.assertEqual(found_in(order, one, other, strength),
                                         plainly_found(order, one, other, strength), (one, other, strength))

    def test_long_texts(self):
        order = order_of("row a b", "as y" + " a" * 20, "as x a" + " '" * 19, "marks '", "over -")
        self.assertEqual(found_in(order, "y" * 150, "y" * 300, 3), [(at, at + 150) for at in range(151)])
        self.assertEqual(found_in(order, "x" * 300, "x" * 300), [(0, 300)])
        self.assertEqual(found_in(order, "a" * 20, "y" * 300, 1), [(at, at + 1) for at in range(300)])
        every = [(start, end) for start in range(301) for end in range(start, 301)]
        self.assertEqual(found_in(order, "", "-" * 300, 1), every)
        self.assertEqual(found_in(order, "-", "-" * 300), [(at, at + 1) for at in range(300)])

    def test_each_list_is_the_askers_own(self):
        order = order_of("row a")
        for strength in (1, 4):
            told = found_in(order, "a", "aa", strength)
            told.append((9, 9))
            told.reverse()
            self.assertEqual(found_in(order, "a", "aa", strength), [(0, 1), (1, 2)])

    def test_the_interface(self):
        self.assertEqual(str(inspect.signature(found_in)), "(order, one, other, strength=4)")


class NoSigns(unittest.TestCase):
    def refused(self, order, one, other, at):
        for strength in (1, 2, 3, 4):
            with self.assertRaises(NoSign, msg=(one, other)) as caught:
                found_in(order, one, other, strength)
            self.assertEqual(caught.exception.at, at, (one, other))
        self.assertRaises(NoSign, found_in, order, one, other)

    def test_either_text(self):
        order = order_of("row a b", "over -")
        self.refused(order, "a?", "a", 1)
        self.refused(order, "a", "aa?", 2)
        self.refused(order, "", "?", 0)
        self.refused(order, "?", "", 0)

    def test_the_sought_one_first(self):
        order = order_of("row a b", "over -")
        self.refused(order, "a?", "aaa?", 1)
        self.refused(order, "aaa?", "a?", 3)
        self.refused(order, "aa?", "?", 2)

    def test_where_the_answer_would_not_hang_on_it(self):
        order = order_of("row a b", "over -")
        self.refused(order, "aaaa?", "b", 4)
        self.refused(order, "bbbb", "a-?", 2)
        self.refused(order, "a", "a" * 299 + "?", 299)
        self.refused(order, "--?", "", 2)


if __name__ == "__main__":
    unittest.main()
