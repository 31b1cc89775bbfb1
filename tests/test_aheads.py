"""Points 7 and 8: rows lined up, and shortest rounds."""

import copy
import itertools
import random
import unittest

from sortlore.aheads import lined_up, shortest_round, told
from sortlore.errors import LoreError, Round

SIGNS = [chr(code) for code in range(ord("!"), ord("~") + 1) if chr(code) != "%"]


def many(count):
    """So many pieces, no two alike."""
    return list(itertools.islice((one + other for one in SIGNS for other in SIGNS), count))


def said(rows):
    """All pairs of which a row says that the first stands ahead of the second."""
    return {(one, other) for row in rows for one, other in zip(row, row[1:])}


def plain_told(rows):
    return list(dict.fromkeys(piece for row in rows for piece in row))


def plain_line(rows):
    """The list of point 7, by its words, or None."""
    pairs = said(rows)
    line = []
    while len(line) < len(plain_told(rows)):
        free = [piece for piece in plain_told(rows) if piece not in line
                and all(one in line for one, other in pairs if other == piece)]
        if not free:
            return None
        line.append(free[0])
    return line


def plain_girth(rows):
    """How many pieces a shortest round has, or 0: by walks that grow one step at a time."""
    pairs = said(rows)
    walks = set(pairs)
    for size in range(1, len(plain_told(rows)) + 1):
        if any(one == other for one, other in walks):
            return size
        walks = {(one, end) for one, middle in walks for start, end in pairs if start == middle}
    return 0


def all_rows(pieces, longest):
    """All rows of these pieces up to a length."""
    return [list(row) for size in range(longest + 1) for row in itertools.product(pieces, repeat=size)]


class Told(unittest.TestCase):
    def test_in_the_turn_of_telling(self):
        self.assertEqual(told([["b", "a"], ["c", "a", "d"], ["b"]]), ["b", "a", "c", "d"])

    def test_no_rows_and_rows_without_pieces(self):
        self.assertEqual(told([]), [])
        self.assertEqual(told([[], []]), [])
        self.assertEqual(told([[], ["b"], [], ["a"]]), ["b", "a"])

    def test_each_once(self):
        self.assertEqual(told([["a", "a", "b", "a"]]), ["a", "b"])

    def test_rounds_don_t_matter(self):
        self.assertEqual(told([["b", "a"], ["a", "b"]]), ["b", "a"])

    def test_six_hundred_pieces(self):
        pieces = many(600)
        self.assertEqual(told([pieces]), pieces)


class LinedUp(unittest.TestCase):
    def test_one_row(self):
        self.assertEqual(lined_up([["c", "a", "b"]]), ["c", "a", "b"])
        self.assertEqual(lined_up([["a"]]), ["a"])

    def test_rows_without_pieces(self):
        self.assertEqual(lined_up([]), [])
        self.assertEqual(lined_up([[]]), [])
        self.assertEqual(lined_up([[], ["b", "a"], [], ["c"], []]), ["b", "a", "c"])

    def test_a_piece_in_several_rows(self):
        self.assertEqual(lined_up([["a", "c"], ["b", "c"], ["c", "d"]]), ["a", "b", "c", "d"])
        self.assertEqual(lined_up([["a", "d"], ["a", "b", "c", "d"]]), ["a", "b", "c", "d"])
        self.assertEqual(lined_up([["a", "b"], ["a", "b"], ["b"], ["a"]]), ["a", "b"])

    def test_the_first_told_that_may_come(self):
        self.assertEqual(lined_up([["b"], ["a"]]), ["b", "a"])
        self.assertEqual(lined_up([["c", "d"], ["a", "b"]]), ["c", "d", "a", "b"])
        self.assertEqual(lined_up([["c", "z"], ["a", "b"], ["b", "c"]]), ["a", "b", "c", "z"])
        # Told first are c, d, x, c waiting for x: behind x comes c ahead of y.
        self.assertEqual(lined_up([["c", "d"], ["x", "y"], ["x", "c"]]), ["x", "c", "d", "y"])
        self.assertEqual(lined_up([["a", "e"], ["b"], ["d", "e"], ["c"]]), ["a", "b", "d", "e", "c"])

    def test_rounds_are_refused(self):
        for rows in ([["a", "a"]], [["a", "b", "a"]], [["a", "b"], ["b", "a"]], [["x"], ["a", "b"], ["b", "a"]]):
            with self.assertRaises(Round):
                lined_up(rows)
            with self.assertRaises(LoreError):
                lined_up(rows)

    def test_against_the_words_of_the_point(self):
        for rows in itertools.product(all_rows("abc", 4), repeat=2):
            self.check(list(rows))
        for rows in itertools.product(all_rows("abcd", 2), repeat=3):
            self.check(list(rows))

    def test_larger_ones_against_the_words_of_the_point(self):
        chance = random.Random(11)
        for count in range(400):
            pieces = many(2 + count // 40)
            rows = [[chance.choice(pieces) for place in range(chance.randrange(4))]
                    for row in range(chance.randrange(2 + count // 30))]
            self.check(rows)
            rank = pieces[:]
            chance.shuffle(rank)
            self.check([sorted(set(row), key=rank.index) for row in rows])

    def test_where_longer_ways_back_branch_off(self):
        chance = random.Random(12)
        for count in range(300):
            pieces = many(14)
            steps = [[pieces[at], pieces[(at + far) - 14]] for at in range(14) for far in (1, 2, 3)]
            self.check(chance.sample(steps, 14 + count // 20))

    def check(self, rows):
        before = copy.deepcopy(rows)
        wanted = plain_line(rows)
        girth = plain_girth(rows)
        self.assertEqual(wanted is None, girth > 0, rows)
        self.check_round(rows, shortest_round(rows), girth)
        try:
            line = lined_up(rows)
        except Round as error:
            self.assertIsNone(wanted, rows)
            self.check_round(rows, error.pieces, girth)
        else:
            self.assertEqual(line, wanted, rows)
        self.assertEqual(told(rows), plain_told(rows))
        self.assertEqual(rows, before)

    def check_round(self, rows, pieces, girth):
        self.assertIs(type(pieces), list)
        self.assertEqual(len(pieces), girth, rows)
        self.assertEqual(len(set(pieces)), girth, rows)
        pairs = said(rows)
        for one, other in zip(pieces, pieces[1:] + pieces[:1]):
            self.assertIn((one, other), pairs, rows)

    def test_six_hundred_pieces_in_one_row(self):
        pieces = many(600)
        self.assertEqual(lined_up([pieces]), pieces)

    def test_six_hundred_pieces_that_come_last_told_first(self):
        pieces = many(301)
        rows = [[pieces[at + 1], pieces[at]] for at in range(300)]
        self.assertEqual(lined_up(rows), pieces[::-1])

    def test_three_hundred_rows_without_a_word_of_one_another(self):
        pieces = many(300)
        self.assertEqual(lined_up([[piece] for piece in pieces]), pieces)
        doubles = [[one, other] for one, other in zip(many(600)[::2], many(600)[1::2])]
        self.assertEqual(lined_up(doubles), many(600))

    def test_one_piece_ahead_of_all_others(self):
        pieces = many(301)
        rows = [[pieces[300], piece] for piece in pieces[:300]]
        self.assertEqual(lined_up(rows), [pieces[300]] + pieces[:300])


class ShortestRound(unittest.TestCase):
    def refused(self, rows):
        with self.assertRaises(Round) as caught:
            lined_up(rows)
        return caught.exception.pieces

    def same_round(self, rows, wanted):
        """The one shortest round of these rows, from whichever of its pieces it is told."""
        turns = [wanted[at:] + wanted[:at] for at in range(len(wanted))]
        self.assertIn(shortest_round(rows), turns)
        self.assertIn(self.refused(rows), turns)

    def test_none(self):
        for rows in ([], [[]], [["a"]], [["a", "b"], ["b", "c"], ["a", "c"]], [["a"], ["a"]]):
            self.assertEqual(shortest_round(rows), [])

    def test_twice_side_by_side(self):
        self.same_round([["a", "a"]], ["a"])
        self.same_round([["x", "a", "b", "b", "c"]], ["b"])
        self.same_round([["a", "b"], ["b", "a"], ["c", "c"]], ["c"])

    def test_twice_but_not_side_by_side(self):
        self.same_round([["a", "b", "a"]], ["a", "b"])
        self.same_round([["a", "b", "c", "a"]], ["a", "b", "c"])

    def test_of_several_pieces_over_several_rows(self):
        self.same_round([["a", "b"], ["c", "a"], ["b", "c"]], ["a", "b", "c"])
        self.same_round([["z", "a", "b"], ["b", "c", "y"], ["c", "d"], ["d", "a"]], ["a", "b", "c", "d"])

    def test_the_shorter_of_two(self):
        longer, shorter = ["a", "b", "c", "d", "a"], ["x", "y", "z", "x"]
        self.same_round([longer, shorter], ["x", "y", "z"])
        self.same_round([shorter, longer], ["x", "y", "z"])

    def test_the_shorter_of_two_that_share_pieces(self):
        self.same_round([["a", "b", "c", "d", "a"], ["c", "b"]], ["b", "c"])
        self.same_round([["a", "b", "c", "d", "e", "a"], ["b", "d"]], ["a", "b", "d", "e"])

    def test_the_shorter_one_whichever_way_is_told_first(self):
        rows = [["a", "b"], ["a", "c", "d", "a"], ["b", "a"], ["b", "e", "f", "b"]]
        for turn in itertools.permutations(rows):
            self.same_round(list(turn), ["a", "b"])

    def test_a_shorter_one_that_is_only_led_to(self):
        self.same_round([["a", "b", "c", "a"], ["c", "p", "q", "p"]], ["p", "q"])

    def test_one_of_all_the_pieces(self):
        pieces = many(599)
        self.same_round([pieces + pieces[:1]], pieces)

    def test_the_shorter_of_two_long_ones(self):
        pieces = many(598)
        one, other = pieces[:300], pieces[300:]
        self.same_round([one + one[:1], other + other[:1]], other)

    def test_of_three_hundred_rows(self):
        pieces = many(300)
        self.same_round([[pieces[at - 1], pieces[at]] for at in range(300)], pieces)

    def test_nothing_handed_in_is_changed(self):
        rows = [["a", "b"], [], ["b", "a"], ["c"]]
        before = copy.deepcopy(rows)
        told(rows)
        shortest_round(rows)
        self.refused(rows)
        self.assertEqual(rows, before)
        rows = [["a", "b"], [], ["c"]]
        before = copy.deepcopy(rows)
        lined_up(rows)
        self.assertEqual(rows, before)

    def test_each_list_is_the_askers_own(self):
        rows = [["a", "b"], ["b", "a"]]
        for asked in (told, shortest_round, self.refused):
            first = asked(rows)
            kept = list(first)
            first.append("z")
            first[0] = "y"
            self.assertEqual(asked(rows), kept)
        line = lined_up([["a", "b"]])
        line.reverse()
        self.assertEqual(lined_up([["a", "b"]]), ["a", "b"])
        row = ["a", "b"]
        for asked in (told, lined_up):
            asked([row]).append("z")
            self.assertEqual(row, ["a", "b"])

    def test_what_is_done_to_the_rows_later_changes_nothing(self):
        rows = [["a", "b"], ["b", "a"]]
        with self.assertRaises(Round) as caught:
            lined_up(rows)
        names, pieces = told(rows), shortest_round(rows)
        rows[0].append("c")
        rows.clear()
        self.assertEqual(names, ["a", "b"])
        self.assertEqual(sorted(pieces), ["a", "b"])
        self.assertEqual(sorted(caught.exception.pieces), ["a", "b"])


if __name__ == "__main__":
    unittest.main()
