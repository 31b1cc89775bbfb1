"""Points 11 to 14: orders made of rules, and what can't be one order."""

import copy
import inspect
import itertools
import random
import unittest

from sortlore.aheads import lined_up, shortest_round
from sortlore.errors import Clash, LoreError, NoLetter, Round
from sortlore.orders import Order
from sortlore.rules import read_rule

SIGNS = [chr(code) for code in range(ord("!"), ord("~") + 1) if chr(code) != "%"]
TELLS = {"row": ("letter", 1, None), "marks": ("mark", 1, None), "great": ("great", 2, None),
         "as": ("as", 1, 2), "over": ("over", 1, None)}


def rules_of(lines):
    return [read_rule(line) for line in lines]


def order_of(*lines):
    return Order(rules_of(lines))


def many(count):
    """So many pieces without figures, no two alike."""
    signs = [sign for sign in SIGNS if not sign.isdigit()]
    return list(itertools.islice((one + other for one in signs for other in signs), count))


def tellings(rules):
    """All (piece, job) in the rules' turn."""
    found = []
    for word, *rest in rules:
        if word in TELLS:
            job, start, stop = TELLS[word]
            found += [(piece, job) for piece in (word, *rest)[start:stop]]
    return found


def plain_clash(rules):
    """The piece of point 12, or None."""
    told = tellings(rules)
    for at, (piece, job) in enumerate(told):
        ahead = [other_job for other, other_job in told[:at] if other == piece]
        if any(other_job != job for other_job in ahead):
            return piece
        if "great" in ahead or "as" in ahead:
            return piece
        if ("figures",) in rules and set(piece) & set("0123456789"):
            return piece
    return None


def plain_no_letter(rules):
    """The piece of point 13, or None."""
    letters = {piece for piece, job in tellings(rules) if job == "letter"}
    marks = {piece for piece, job in tellings(rules) if job == "mark"}
    needs = []
    for rule in rules:
        if rule[0] == "great":
            needs.append((rule[1], letters))
        if rule[0] == "as":
            needs += [(piece, letters | marks if at else letters) for at, piece in enumerate(rule[2:])]
    return next((piece for piece, fit in needs if piece not in fit), None)


def plain_rows(rules, word):
    return [list(rule[1:]) for rule in rules if rule[0] == word]


class Jobs(unittest.TestCase):
    LINES = ["row a ch b", "marks ' ``", "great a A AA", "great ch CH", "as ae a b", "over - /", "blanks"]

    def test_each_of_the_five(self):
        order = order_of(*self.LINES)
        wanted = {"a": "letter", "ch": "letter", "b": "letter", "'": "mark", "``": "mark", "A": "great",
                  "AA": "great", "CH": "great", "ae": "as", "-": "over", "/": "over", " ": "over"}
        for piece, job in wanted.items():
            self.assertEqual(order.job(piece), job, piece)

    def test_texts_without_a_job(self):
        order = order_of(*self.LINES)
        for text in ["", "c", "h", "`", "z", "ab", "aa", "a ", " a", "  ", "abc", "row", "letter", "%", "1", "\n"]:
            self.assertIsNone(order.job(text), text)

    def test_the_blank(self):
        self.assertEqual(order_of("blanks").job(" "), "over")
        self.assertEqual(order_of("blanks", "row a", "blanks").job(" "), "over")
        self.assertIsNone(order_of("row a", "over -").job(" "))
        self.assertIsNone(order_of().job(" "))

    def test_the_parts_of_an_as_and_the_letter_of_a_great_get_no_job_there(self):
        order = order_of("great a A", "as x a '", "row a", "marks '")
        self.assertEqual(order.job("a"), "letter")
        self.assertEqual(order.job("'"), "mark")
        self.assertEqual(order.letters(), ["a"])
        self.assertEqual(order.marks(), ["'"])

    def test_figures_have_no_job_by_a_figures_rule(self):
        order = order_of("figures", "row a")
        for text in ["0", "9", "12", "1a"]:
            self.assertIsNone(order.job(text), text)

    def test_figures_without_a_figures_rule_are_like_other_signs(self):
        order = order_of("row 1 a1", "marks 2", "great 1 11", "as 3 1", "over 0")
        wanted = {"1": "letter", "a1": "letter", "2": "mark", "11": "great", "3": "as", "0": "over", "4": None}
        for piece, job in wanted.items():
            self.assertEqual(order.job(piece), job, piece)

    def test_forget_rules_are_passed_over(self):
        plain = ["row a b", "marks '", "great a A", "as x a '", "over -", "blanks"]
        order = order_of("forget a A", *plain, "forget x - ' z", "forget a")
        for piece in ["a", "b", "'", "A", "x", "-", " ", "z"]:
            self.assertEqual(order.job(piece), order_of(*plain).job(piece), piece)
        self.assertEqual(order.letters(), ["a", "b"])
        self.assertEqual(order.marks(), ["'"])
        self.assertEqual(order_of("forget a", "forget b").letters(), [])

    def test_a_piece_of_a_forget_rule_clashes_with_nothing(self):
        order_of("forget 1 a1", "figures", "forget 2")
        order_of("forget a", "row a", "forget a a", "over -", "forget -")

    def test_figures_and_behind_each_way(self):
        for figures, behind, blanks in itertools.product((False, True), repeat=3):
            lines = ["row a"] + ["figures"] * figures + ["behind"] * behind + ["blanks"] * blanks + ["over -"]
            for turn in (lines, lines[::-1], lines + lines):
                order = order_of(*turn)
                self.assertIs(order.figures, figures, turn)
                self.assertIs(order.behind, behind, turn)

    def test_no_rules(self):
        order = Order([])
        self.assertEqual(order.letters(), [])
        self.assertEqual(order.marks(), [])
        self.assertIs(order.figures, False)
        self.assertIs(order.behind, False)
        for text in ["", " ", "a", "'"]:
            self.assertIsNone(order.job(text))

    def test_the_interface(self):
        self.assertEqual(str(inspect.signature(Order)), "(rules)")
        self.assertEqual(str(inspect.signature(Order.job)), "(self, piece)")
        self.assertEqual(str(inspect.signature(Order.letters)), "(self)")
        self.assertEqual(str(inspect.signature(Order.marks)), "(self)")
        self.assertEqual(Order(rules=[("row", "a")]).job(piece="a"), "letter")


class Refused(unittest.TestCase):
    def refused(self, kind, piece, *lines):
        with self.assertRaises(LoreError, msg=lines) as caught:
            order_of(*lines)
        self.assertIs(type(caught.exception), kind, lines)
        self.assertEqual(caught.exception.piece, piece, lines)

    def clash(self, piece, *lines):
        self.refused(Clash, piece, *lines)

    def no_letter(self, piece, *lines):
        self.refused(NoLetter, piece, *lines)


class Clashes(Refused):
    # One line for each job; each tells it of x.
    TELLING = {"letter": "row x", "mark": "marks x", "great": "great l x", "as": "as x l", "over": "over x"}

    def test_twice_with_the_same_job(self):
        order = order_of("row a b", "row c a", "row a", "marks ' `", "marks ' `", "over - - /", "over -")
        self.assertEqual(order.letters(), ["c", "a", "b"])
        self.assertEqual(order.marks(), ["'", "`"])
        self.assertEqual(order.job("-"), "over")

    def test_each_two_jobs(self):
        for one, other in itertools.product(self.TELLING, repeat=2):
            lines = ["row l", self.TELLING[one], self.TELLING[other]]
            if one == other and one in ("letter", "mark", "over"):
                self.assertEqual(order_of(*lines).job("x"), one)
            else:
                self.clash("x", *lines)
                self.clash("x", *lines[1:], "row l")
                self.clash("x", lines[1], "row l", "over y", lines[2])

    def test_a_great_form_twice(self):
        self.clash("A", "row a b", "great a A A")
        self.clash("A", "row a b", "great a B A C A")
        self.clash("A", "row a b", "great a A", "great a A")
        self.clash("A", "row a b", "great a A", "great b B A")

    def test_a_counting_piece_twice(self):
        self.clash("x", "row a b", "as x a", "as x b")
        self.clash("x", "row a b", "as x a", "as x a")

    def test_a_piece_with_a_figure_beside_a_figures_rule(self):
        for piece in ["0", "9", "1a", "a1", "12", "/5", "5:"]:
            for line in ["row X", "row a X b", "marks X", "great l X", "as X l", "over X"]:
                line = line.replace("X", piece)
                order_of("row l", line)
                self.clash(piece, "row l", "figures", line)
                self.clash(piece, "row l", line, "figures")
                self.clash(piece, "figures", line, "row l", "figures")

    def test_signs_beside_the_figures_are_none(self):
        self.assertEqual(order_of("figures", "row / : a/ :a").letters(), ["/", ":", "a/", ":a"])

    def test_the_letter_of_a_great_and_the_parts_of_an_as_tell_no_job(self):
        self.no_letter("1", "figures", "great 1 A")
        self.no_letter("1", "figures", "row a", "as x 1")
        self.no_letter("1", "figures", "row a", "as x a 1")
        order = order_of("great a A", "as x a a '", "great a B", "as y a", "row a", "marks '")
        self.assertEqual(order.letters(), ["a"])

    def test_the_first_in_the_rules_turn(self):
        self.clash("b", "row a b", "over b", "marks a")
        self.clash("a", "row a b", "over a b", "marks b")
        self.clash("c", "row a b c", "over d c a", "marks b")
        self.clash("1", "row a 1", "marks a", "figures")
        self.clash("a", "row a", "marks a 1", "figures")
        self.clash("1", "row a", "marks 1 a", "figures")
        self.clash("A", "row a b", "great a A A b")
        self.clash("b", "row a b", "great a A b A")
        self.clash("x", "row a", "as x a", "as x a", "over a")
        self.clash("2", "figures", "row a b", "great a A 2 A")

    def test_clashes_come_ahead_of_no_letter(self):
        for late in ["marks q", "row q", "great a q", "as q q"]:
            self.clash("q", "great z Z", "as w z", "over q", late)
            self.clash("q", "great q Z", "as w q", "over q", late)
        self.clash("1", "great z Z", "row 1", "figures")

    def test_clashes_come_ahead_of_rounds(self):
        self.clash("b", "row a b", "row b a", "over b")
        self.clash("c", "row a a", "marks c c", "over c")


class NoLetters(Refused):
    OTHERS = ["row a", "marks '", "great a A", "as x a", "over -"]

    def test_the_letter_of_a_great(self):
        for piece in ["'", "A", "x", "-", "z", "aa"]:
            self.no_letter(piece, *self.OTHERS, f"great {piece} Z")
            self.no_letter(piece, f"great {piece} Z", *self.OTHERS)
        self.assertEqual(order_of(*self.OTHERS, "great a Z").job("Z"), "great")

    def test_the_letter_of_a_great_that_is_its_own_form(self):
        self.no_letter("z", "great z z")

    def test_the_first_part_of_an_as(self):
        for piece in ["'", "A", "x", "-", "z", "y"]:
            for rest in ["", " a", " a '", " z"]:
                self.no_letter(piece, *self.OTHERS, f"as y {piece}{rest}")
                self.no_letter(piece, f"as y {piece}{rest}", *self.OTHERS)
        self.assertEqual(order_of(*self.OTHERS, "as y a").job("y"), "as")

    def test_the_other_parts_of_an_as(self):
        for piece in ["A", "x", "-", "z", "y"]:
            for ahead in ["a", "a a", "a '", "a ' '"]:
                self.no_letter(piece, *self.OTHERS, f"as y {ahead} {piece} a")
                self.no_letter(piece, f"as y {ahead} {piece}", *self.OTHERS)
        for parts in ["a", "a a", "a '", "a ' '", "a ' a '"]:
            self.assertEqual(order_of(*self.OTHERS, f"as y {parts}").job("y"), "as")

    def test_letters_that_are_told_in_a_rule_behind(self):
        order = order_of("great b B", "as x c ' b", "marks '", "row b", "row c")
        self.assertEqual(order.letters(), ["b", "c"])
        self.assertEqual(order.job("x"), "as")

    def test_the_first_in_the_rules_turn(self):
        self.no_letter("p", "row a", "great p P", "great q Q", "as x r")
        self.no_letter("q", "row a", "great a A", "as x a q r", "great p P")
        self.no_letter("r", "row a", "as x r a q", "great p P")
        self.no_letter("'", "row a", "marks '", "as x ' q", "great p P")
        self.no_letter("q", "row a", "marks '", "as x a ' q r", "great p P")

    def test_forget_rules_tell_no_letters(self):
        self.no_letter("a", "forget a", "great a A")
        self.no_letter("a", "forget a", "as x a")

    def test_no_letter_comes_ahead_of_rounds(self):
        self.no_letter("z", "row a b", "row b a", "great z Z")
        self.no_letter("z", "marks ' '", "as x z")
        self.no_letter("'", "row a a", "marks '", "as x a", "great ' Z")


class Lines(unittest.TestCase):
    def round_of(self, *lines):
        with self.assertRaises(LoreError, msg=lines) as caught:
            order_of(*lines)
        self.assertIs(type(caught.exception), Round, lines)
        return caught.exception.pieces

    def test_one_row(self):
        order = order_of("row c a b", "marks ` ' ,")
        self.assertEqual(order.letters(), ["c", "a", "b"])
        self.assertEqual(order.marks(), ["`", "'", ","])

    def test_rows_that_overlap(self):
        for word, asked in (("row", Order.letters), ("marks", Order.marks)):
            order = order_of(f"{word} a d", f"{word} b c d", "over -", f"{word} a b", f"{word} d e")
            self.assertEqual(asked(order), ["a", "b", "c", "d", "e"])
            order = order_of(f"{word} c d", f"{word} x y", f"{word} x c")
            self.assertEqual(asked(order), ["x", "c", "d", "y"])
            order = order_of(f"{word} b", f"{word} a")
            self.assertEqual(asked(order), ["b", "a"])

    def test_rows_and_marks_by_themselves(self):
        order = order_of("marks ' `", "row b a", "marks , '", "row c b")
        self.assertEqual(order.letters(), ["c", "b", "a"])
        self.assertEqual(order.marks(), [",", "'", "`"])

    def test_other_pieces_are_not_among_them(self):
        order = order_of("row a", "great a A", "as x a", "over -", "blanks", "figures", "forget z")
        self.assertEqual(order.letters(), ["a"])
        self.assertEqual(order.marks(), [])

    def test_a_round_of_letters(self):
        self.assertEqual(self.round_of("row a a"), ["a"])
        self.assertEqual(sorted(self.round_of("row a b", "row b a")), ["a", "b"])
        turns = (["a", "b", "c"], ["b", "c", "a"], ["c", "a", "b"])
        self.assertIn(self.round_of("row a b", "row c a", "row b c"), turns)

    def test_a_round_of_marks(self):
        self.assertEqual(self.round_of("row a", "marks ' '"), ["'"])
        self.assertEqual(sorted(self.round_of("row a", "marks ' `", "marks ` '")), ["'", "`"])

    def test_a_shortest_round(self):
        self.assertIn(self.round_of("row a b c d a", "row c b"), (["b", "c"], ["c", "b"]))
        self.assertIn(self.round_of("marks a b c d a", "marks c b"), (["b", "c"], ["c", "b"]))

    def test_the_letters_come_first_where_both_go_round(self):
        self.assertEqual(sorted(self.round_of("marks ' '", "row a b", "row b a")), ["a", "b"])

    def test_over_and_the_other_rules_say_nothing_of_turns(self):
        order = order_of("row a b", "over - / -", "great b B", "great a A C", "as x b a b")
        self.assertEqual(order.letters(), ["a", "b"])

    def test_many_pieces(self):
        pieces = many(600)
        lines = ["row " + " ".join(pieces[at:at + 2]) for at in range(0, 600, 2)]
        self.assertEqual(order_of(*lines).letters(), pieces)
        self.assertEqual(order_of("marks " + " ".join(pieces)).marks(), pieces)
        self.assertEqual(len(self.round_of("row " + " ".join(pieces[:599] + pieces[:1]))), 599)

    def test_many_forms_and_counting_pieces(self):
        pieces = many(600)
        order = order_of("row a", "great a " + " ".join(pieces[:598]))
        self.assertTrue(all(order.job(piece) == "great" for piece in pieces[:598]))
        rules = ["row a"] + [f"as {piece} a" for piece in pieces[:299]]
        self.assertTrue(all(order_of(*rules).job(piece) == "as" for piece in pieces[:299]))


class AgainstTheWords(unittest.TestCase):
    POOL = ["row a b", "row b a", "row c b", "marks '", "marks ' a", "marks ` '", "great a A", "great a b",
            "great b A c", "great ' B", "as x a", "as x c '", "as a b", "as ' b", "as y b x", "over -", "over a -",
            "over x A", "figures", "row 1", "over a1 1", "great b 1a", "as 2 a", "blanks", "behind", "forget a x 1"]
    PIECES = ["a", "b", "c", "'", "`", "A", "B", "x", "y", "-", "1", "a1", "1a", "2", " "]

    def check(self, rules):
        before = copy.deepcopy(rules)
        wanted = self.wanted(rules)
        try:
            order = Order(rules)
        except Round as error:
            self.assertEqual(wanted[0], Round, rules)
            self.check_round(wanted[1], error.pieces)
        except LoreError as error:
            self.assertEqual((type(error), error.piece), wanted, rules)
        else:
            jobs = [order.job(piece) for piece in self.PIECES]
            self.assertEqual((order.letters(), order.marks(), jobs), wanted[1:], rules)
        self.assertEqual(rules, before)

    def wanted(self, rules):
        piece = plain_clash(rules)
        if piece is not None:
            return (Clash, piece)
        piece = plain_no_letter(rules)
        if piece is not None:
            return (NoLetter, piece)
        for word in ("row", "marks"):
            if shortest_round(plain_rows(rules, word)):
                return (Round, plain_rows(rules, word))
        told = dict(tellings(rules) + [(" ", "over")] * (("blanks",) in rules))
        jobs = [told.get(piece) for piece in self.PIECES]
        return (None, lined_up(plain_rows(rules, "row")), lined_up(plain_rows(rules, "marks")), jobs)

    def check_round(self, rows, pieces):
        said = {pair for row in rows for pair in zip(row, row[1:])}
        self.assertEqual(len(pieces), len(shortest_round(rows)), rows)
        self.assertEqual(len(set(pieces)), len(pieces))
        for pair in zip(pieces, pieces[1:] + pieces[:1]):
            self.assertIn(pair, said, rows)

    def test_up_to_three_rules(self):
        rules = rules_of(self.POOL)
        for size in range(3):
            for some in itertools.product(rules, repeat=size):
                self.check(list(some))
        for some in itertools.permutations(rules, 3):
            self.check(list(some))

    def test_longer_ones(self):
        chance = random.Random(5)
        rules = rules_of(self.POOL)
        fine = rules_of(["row a b", "row c b", "marks '", "great a A", "as x c '", "over -"])
        for count in range(4000):
            some = fine[:chance.randrange(7)] + chance.sample(rules, chance.randrange(4))
            chance.shuffle(some)
            self.check(some)


class Kept(unittest.TestCase):
    LINES = ["row a b c", "marks ' `", "great a A", "as x b '", "over -", "blanks", "figures", "behind"]

    def told(self, order):
        """All that the order tells, as copies: a list that it would give twice may not hide a change."""
        jobs = [order.job(piece) for piece in ["a", "b", "c", "'", "`", "A", "x", "-", " ", "z", "q"]]
        return list(order.letters()), list(order.marks()), jobs, order.figures, order.behind

    def test_nothing_handed_in_is_changed(self):
        for lines in (self.LINES, ["row a b a"], ["row a", "over a"], ["great a A"], ["marks ' '"]):
            rules = rules_of(lines)
            before = list(rules)
            try:
                self.told(Order(rules))
            except LoreError:
                pass
            self.assertEqual(rules, before)

    def test_rules_that_are_changed_behind_change_nothing(self):
        rules = rules_of(self.LINES)
        order = Order(rules)
        before = self.told(order)
        rules.append(("row", "z"))
        rules[0] = ("row", "q", "a")
        self.assertEqual(self.told(order), before)
        rules.clear()
        self.assertEqual(self.told(order), before)
        self.assertEqual(before[0], ["a", "b", "c"])

    def test_told_lists_are_the_askers_own(self):
        order = order_of(*self.LINES)
        before = self.told(order)
        for asked in (order.letters, order.marks):
            first = asked()
            second = asked()
            kept = list(second)
            first.append("z")
            first[0] = "q"
            self.assertEqual(second, kept)
            self.assertEqual(self.told(order), before)
            second.clear()
            self.assertEqual(self.told(order), before)

    def test_a_told_round_is_the_askers_own(self):
        rules = rules_of(["row a b", "row b a"])
        rounds = []
        for count in range(2):
            with self.assertRaises(Round) as caught:
                Order(rules)
            rounds.append(caught.exception.pieces)
            caught.exception.pieces.append("z")
        self.assertEqual([sorted(pieces) for pieces in rounds], [["a", "b", "z"]] * 2)
        self.assertEqual(rules, rules_of(["row a b", "row b a"]))

    def test_orders_beside_one_another_share_nothing(self):
        one = order_of("row a b", "figures")
        other = order_of("row b a", "marks '", "behind")
        self.assertEqual((one.letters(), one.marks(), one.figures, one.behind), (["a", "b"], [], True, False))
        told = (other.letters(), other.marks(), other.figures, other.behind)
        self.assertEqual(told, (["b", "a"], ["'"], False, True))
        self.assertIsNone(one.job("'"))


if __name__ == "__main__":
    unittest.main()
