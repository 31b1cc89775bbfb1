"""Points 32 and 33: books, the lines that tell them, and the rules and orders that they hold by names."""

import inspect
import itertools
import random
import unittest

from sortlore.books import Book
from sortlore.errors import Clash, LoreError, NoLetter, NoName, NoRule, Ring, Round, Twice
from sortlore.orders import Order
from sortlore.rules import changed, read_rule

SIGNS = [chr(code) for code in range(ord("!"), ord("~") + 1) if chr(code) != "%"]
TWOS = [one + other for one in SIGNS for other in SIGNS]


def book_of(*lines):
    return Book("\n".join(lines))


def rules_by(*lines):
    return [read_rule(line) for line in lines]


class Refused(unittest.TestCase):
    def refused(self, kind, asked, *given):
        with self.assertRaises(kind) as caught:
            asked(*given)
        self.assertIs(type(caught.exception), kind)
        self.assertIsInstance(caught.exception, LoreError)
        return caught.exception


class Lines(Refused):
    def no_rule(self, at, *lines):
        error = self.refused(NoRule, book_of, *lines)
        self.assertIs(type(error.at), int)
        self.assertEqual(error.at, at, lines)

    def twice(self, name, *lines):
        self.assertEqual(self.refused(Twice, book_of, *lines).name, name)

    def test_the_text_without_signs(self):
        self.assertEqual(Book("").names(), [])

    def test_names_in_the_books_turn(self):
        self.assertEqual(book_of("order b", "order a").names(), ["b", "a"])
        self.assertEqual(book_of("order z", "row a", "order m of z", "row b", "order a of x").names(), ["z", "m", "a"])
        self.assertIs(type(book_of("order a").names()), list)

    def test_an_order_without_rules(self):
        book = book_of("order a", "order b")
        self.assertEqual((book.rules_of("a"), book.rules_of("b")), ([], []))
        self.assertEqual(book.order_of("b").letters(), [])

    def test_rules_go_to_the_order_that_was_begun_last(self):
        book = book_of("order a", "row a b", "great a A", "order b", "over a", "order c", "figures", "blanks")
        self.assertEqual(book.rules_of("a"), [("row", "a", "b"), ("great", "a", "A")])
        self.assertEqual(book.rules_of("b"), [("over", "a")])
        self.assertEqual(book.rules_of("c"), [("figures",), ("blanks",)])

    def test_each_rule_is_a_line(self):
        lines = ["row a b", "marks ' `", "great a A B", "as m a '", "over . ..", "figures", "blanks", "behind"]
        self.assertEqual(book_of("order x", *lines).rules_of("x"), rules_by(*lines))
        self.assertEqual(book_of("order x", "forget a b", *lines).rules_of("x"), rules_by(*lines))

    def test_lines_without_signs(self):
        self.no_rule(1, "order a", "")
        self.no_rule(0, "", "order a")
        self.no_rule(1, "order a", "", "row a")
        self.no_rule(2, "order a", "row a", "", "order a")
        self.assertEqual(self.refused(NoRule, Book, "\n").at, 0)
        self.assertEqual(self.refused(NoRule, Book, "\n\n").at, 0)
        self.assertEqual(self.refused(NoRule, Book, "order a\n").at, 1)
        self.assertEqual(self.refused(NoRule, Book, "order a\nrow b\n").at, 2)

    def test_blanks_alone(self):
        self.no_rule(1, "order a", " ")
        self.no_rule(0, " ")

    def test_names_of_one_to_eight_small_letters(self):
        for name in ("a", "z", "ab", "abcdefgh", "zzzzzzzz", "order", "of", "row"):
            book = book_of("order " + name, "row a")
            self.assertEqual(book.names(), [name])
            self.assertEqual(book.rules_of(name), [("row", "a")])
            self.assertEqual(book_of("order x of " + name).names(), ["x"])
            self.assertEqual(book_of("order " + name + " of " + name).names(), [name])
        self.assertEqual(book_of("order of of of").names(), ["of"])

    def test_what_is_no_name(self):
        for name in ("", "abcdefghi", "A", "aB", "a1", "1", "a-b", "a_b", "`", "{", "@", "[", "a.", "a'"):
            self.no_rule(0, "order " + name)
            self.no_rule(0, "order " + name + " of a")
            self.no_rule(0, "order a of " + name)
            self.no_rule(2, "order x", "row a", "order " + name)
            self.no_rule(2, "order x", "row a", "order a of " + name)

    def test_what_is_no_beginning_of_an_order(self):
        for line in ("order", "order ", " order a", "order a ", "order  a", "Order a", "orders a", "order a b",
                     "order a of", "order a of ", "order a of  b", "order a  of b", "order  a of b", "order a of b ",
                     "order a of b c", "order a of b of c", "order a for b", "order a Of b", "order of b c", "of a",
                     "order a, b", "a", "order a of of b", "order a\tb", "order a b c"):
            self.no_rule(0, line)
            self.no_rule(1, "order x", line)

    def test_what_is_no_rule(self):
        for line in ("row", "great a", "as a", "over", "marks", "forget", "figures a", "blanks .", "behind b", "rows a",
                     "row  a", " row a", "row a ", "row abc", "Row a", "row a  b", "row a%", "great  a A", "", "x"):
            self.no_rule(1, "order a", line)
            self.no_rule(2, "order a", "row a", line)
            self.no_rule(3, "order a", "row a", "order b", line, "order b")

    def test_a_rule_ahead_of_the_first_order(self):
        for line in ("row a", "figures", "forget a", "as a b"):
            self.no_rule(0, line)
            self.no_rule(0, line, "order a")
            self.no_rule(0, line, line, "order a", "order a")

    def test_twice(self):
        self.twice("a", "order a", "order a")
        self.twice("b", "order a", "order b of a", "row b", "order b of c")
        self.twice("a", "order a of b", "order b", "order a")
        self.twice("abcdefgh", "order abcdefgh", "order abcdefg", "order abcdefgh of abcdefg")

    def test_an_elder_is_no_name_of_its_own(self):
        self.assertEqual(book_of("order a of b", "order b of a").names(), ["a", "b"])

    def test_the_first_bad_line(self):
        self.no_rule(1, "order a", "row", "great")
        self.no_rule(1, "order a", "row", "order a")
        self.twice("a", "order a", "order a", "row")
        self.twice("b", "order b", "order a", "order b", "order a")
        self.twice("a", "order b", "order a", "order a", "order b")
        self.no_rule(0, "row a", "order a", "order a")
        self.no_rule(3, "order a", "order b", "row a", "", "order b", "order a")

    def test_jobs_and_elders_are_not_looked_at_yet(self):
        book = book_of("order a of nowhere", "row a a", "over a", "great z y", "order b of b")
        self.assertEqual(book.names(), ["a", "b"])

    def test_its_argument(self):
        self.assertEqual(str(inspect.signature(Book)), "(text)")
        self.assertEqual(str(inspect.signature(Book.names)), "(self)")
        self.assertEqual(str(inspect.signature(Book.rules_of)), "(self, name)")
        self.assertEqual(str(inspect.signature(Book.order_of)), "(self, name)")


class Rules(Refused):
    ELDERS = book_of("order c of b", "forget A", "row d", "order a", "row a b", "forget a", "great a A", "over .",
                     "order b of a", "forget b .", "row b a", "behind", "order d of c", "forget a", "order e")

    def test_without_an_elder(self):
        self.assertEqual(self.ELDERS.rules_of("a"), rules_by("row a b", "great a A", "over ."))
        self.assertEqual(self.ELDERS.rules_of("e"), [])

    def test_with_an_elder(self):
        self.assertEqual(self.ELDERS.rules_of("b"), rules_by("row a", "great a A", "row b a", "behind"))

    def test_with_several_in_a_chain(self):
        self.assertEqual(self.ELDERS.rules_of("c"), rules_by("row a", "row b a", "behind", "row d"))
        self.assertEqual(self.ELDERS.rules_of("d"), rules_by("row b", "behind", "row d"))

    def test_forget_does_not_reach_its_own_rules_nor_those_of_younger_ones(self):
        book = book_of("order a", "row a", "forget a", "order b of a", "row b", "forget b a", "order c of b", "row a")
        self.assertEqual(book.rules_of("a"), rules_by("row a"))
        self.assertEqual(book.rules_of("b"), rules_by("row b"))
        self.assertEqual(book.rules_of("c"), rules_by("row b", "row a"))

    def test_the_elder_may_stand_behind(self):
        ahead = book_of("order a", "row a b", "order b of a", "forget a")
        behind = book_of("order b of a", "forget a", "order a", "row a b")
        for name in ("a", "b"):
            self.assertEqual(ahead.rules_of(name), behind.rules_of(name))
        self.assertEqual(behind.rules_of("b"), rules_by("row b"))

    def test_two_of_one_elder(self):
        book = book_of("order a", "row a b", "order b of a", "forget a", "order c of a", "forget b")
        self.assertEqual([book.rules_of(name) for name in "abca"],
                         [rules_by(line) for line in ("row a b", "row b", "row a", "row a b")])

    def test_the_kinds(self):
        rules = self.ELDERS.rules_of("c")
        self.assertIs(type(rules), list)
        self.assertEqual({type(rule) for rule in rules}, {tuple})

    def test_the_words_of_the_point_on_chains_of_chance(self):
        chance = random.Random(33)
        lines = ["row a b", "row c a", "great a A", "forget a", "forget c b", "over b .", "as m a", "forget m",
                 "marks '"]
        for count in range(150):
            names = list("abcdef")
            own = {name: chance.choices(lines, k=chance.randrange(4)) for name in names}
            # Elders go from a to f alone, so there is no ring; the book's turn is any.
            elders = {name: chance.choice([None, *names[at + 1:]]) for at, name in enumerate(names)}
            chance.shuffle(names)
            text = []
            for name in names:
                text += ["order " + name + (" of " + elders[name] if elders[name] else ""), *own[name]]
            book = book_of(*text)
            for name in names:
                self.assertEqual(book.rules_of(name), self.plain_rules(name, own, elders))

    def plain_rules(self, name, own, elders):
        rules = self.plain_rules(elders[name], own, elders) if elders[name] else []
        return changed(rules, rules_by(*own[name]))

    def test_no_such_name(self):
        for name in ("x", "", "A", "order a", " a", "abcdefghi", "b of a", "%", "a\n"):
            for asked in (self.ELDERS.rules_of, self.ELDERS.order_of, Book("").rules_of, Book("").order_of):
                self.assertEqual(self.refused(NoName, asked, name).name, name)

    def test_no_such_elder(self):
        book = book_of("order a of x", "row a", "order b of a", "order c of b", "order d", "order e of c")
        for name in "abce":
            for asked in (book.rules_of, book.order_of):
                self.assertEqual(self.refused(NoName, asked, name).name, "x")
        self.assertEqual(book.rules_of("d"), [])

    def test_rings_with_the_name_asked_in_them(self):
        book = book_of("order a of b", "order b of c", "order c of a", "order d of d")
        for name, around in (("a", ["a", "b", "c"]), ("b", ["b", "c", "a"]), ("c", ["c", "a", "b"]), ("d", ["d"])):
            for asked in (book.rules_of, book.order_of):
                error = self.refused(Ring, asked, name)
                self.assertEqual(error.around, around)
                self.assertIs(type(error.around), list)

    def test_rings_without_the_name_asked(self):
        book = book_of("order x of y", "order y of b", "order a of b", "order b of c", "order c of a", "order z of w",
                       "order w of w", "order v")
        for name, around in (("x", ["b", "c", "a"]), ("y", ["b", "c", "a"]), ("z", ["w"])):
            for asked in (book.rules_of, book.order_of):
                self.assertEqual(self.refused(Ring, asked, name).around, around)
        self.assertEqual(book.rules_of("v"), [])

    def test_all_elders_of_four_orders(self):
        """Each of four names has one of them, one that is nowhere, or none as its elder."""
        for elders in itertools.product([*"abcd", "x", None], repeat=4):
            elder_of = dict(zip("abcd", elders))
            book = book_of(*["order " + name + (" of " + elder_of[name] if elder_of[name] else "") for name in "abcd"])
            for name in "abcdx":
                self.assertEqual(self.told(book, name), self.wanted(elder_of, name), (elders, name))

    def told(self, book, name):
        try:
            return book.rules_of(name)
        except NoName as error:
            return error.name
        except Ring as error:
            return ("ring", error.around)

    def wanted(self, elder_of, name):
        met = []
        while name not in met:
            met.append(name)
            if name not in elder_of:
                return name
            if elder_of[name] is None:
                return []
            name = elder_of[name]
        return ("ring", met[met.index(name):])


class Orders(Refused):
    def test_an_order_by_its_rules(self):
        book = book_of("order a", "row a b c", "great a A", "marks '", "order b of a", "forget b", "row c b", "figures")
        self.assertIsInstance(book.order_of("a"), Order)
        self.assertEqual(book.order_of("a").letters(), ["a", "b", "c"])
        order = book.order_of("b")
        self.assertEqual((order.letters(), order.marks(), order.job("A")), (["a", "c", "b"], ["'"], "great"))
        self.assertEqual((order.figures, book.order_of("a").figures), (True, False))

    def test_it_refuses_as_order_does(self):
        book = book_of("order a", "row a b", "order clash of a", "over b", "order letter of a", "great c C",
                       "order round of a", "row b a", "order marks of a", "marks ' '", "order fine of clash",
                       "forget b")
        self.assertEqual(self.refused(Clash, book.order_of, "clash").piece, "b")
        self.assertEqual(self.refused(NoLetter, book.order_of, "letter").piece, "c")
        self.assertEqual(sorted(self.refused(Round, book.order_of, "round").pieces), ["a", "b"])
        self.assertEqual(self.refused(Round, book.order_of, "marks").pieces, ["'"])
        self.assertEqual(book.order_of("fine").letters(), ["a"])
        for name in ("clash", "letter", "round", "marks"):
            self.assertTrue(book.rules_of(name))

    def test_names_ahead_of_what_order_refuses(self):
        book = book_of("order a of b", "row a a", "order b of a", "over a", "order c of x", "row c c", "order d of c")
        self.assertEqual(self.refused(Ring, book.order_of, "a").around, ["a", "b"])
        self.assertEqual(self.refused(NoName, book.order_of, "c").name, "x")
        self.assertEqual(self.refused(NoName, book.order_of, "d").name, "x")

    def test_each_order_is_made_anew(self):
        book = book_of("order a", "row a b")
        book.order_of("a").letters().clear()
        self.assertEqual(book.order_of("a").letters(), ["a", "b"])


class Kept(Refused):
    def test_lists_are_the_askers_own(self):
        book = book_of("order a", "row a", "order b of a", "row b")
        book.names().clear()
        book.names().append("x")
        self.assertEqual(book.names(), ["a", "b"])
        for name in ("a", "b"):
            rules = book.rules_of(name)
            wanted = list(rules)
            rules.append(("row", "z"))
            rules[0] = ("over", "y")
            self.assertEqual(book.rules_of(name), wanted)
        self.assertEqual(book.rules_of("b"), rules_by("row a", "row b"))

    def test_a_refusals_list_is_the_askers_own(self):
        book = book_of("order a of b", "order b of a")
        self.refused(Ring, book.rules_of, "a").around.clear()
        self.assertEqual(self.refused(Ring, book.rules_of, "a").around, ["a", "b"])

    def test_two_books_keep_apart(self):
        one, other = book_of("order a", "row a"), book_of("order b", "row b")
        self.assertEqual((one.names(), other.names(), Book("").names()), (["a"], ["b"], []))
        self.refused(NoName, one.rules_of, "b")

    def test_what_is_refused_changes_nothing(self):
        book = book_of("order a of x", "order b", "row b")
        for name in ("a", "x", ""):
            self.refused(NoName, book.order_of, name)
        self.assertEqual((book.names(), book.rules_of("b")), (["a", "b"], rules_by("row b")))


class Sizes(Refused):
    def test_sixty_orders_in_a_chain(self):
        names = [one + other for one in "abcdefgh" for other in "abcdefgh"][:60]
        lines = ["order " + names[0], "row a"]
        for elder, name in zip(names, names[1:]):
            lines += ["order " + name + " of " + elder, "row " + elder + " " + name, "forget q", "over . -"]
        book = book_of(*lines)
        self.assertEqual(len(lines), 238)
        self.assertEqual(book.names(), names)
        self.assertEqual(book.order_of(names[-1]).letters(), ["a", *names])
        self.assertEqual(len(book.rules_of(names[-1])), 119)
        ring = book_of("order aa of " + names[-1], *lines[1:])
        self.assertEqual(self.refused(Ring, ring.rules_of, names[30]).around, names[30::-1] + names[:30:-1])

    def test_twenty_thousand_signs(self):
        pieces = TWOS[:6600]
        text = "order a\nrow " + " ".join(pieces)
        self.assertGreater(len(text), 19800)
        self.assertEqual(Book(text).order_of("a").letters(), pieces)
        self.assertEqual(self.refused(Round, Book(text + " !!").order_of, "a").pieces, pieces)

    def test_three_hundred_lines(self):
        rows = ["row " + " ".join(TWOS[at * 21:at * 21 + 22]) for at in range(298)]
        book = book_of("order a", *rows[::-1])
        self.assertEqual(book.order_of("a").letters(), TWOS[:298 * 21 + 1])
        lines = ["order a", *["row a"] * 298]
        self.assertEqual(book_of(*lines).rules_of("a"), [("row", "a")] * 298)
        self.assertEqual(self.refused(NoRule, book_of, *lines, "rov a").at, 299)
        self.assertEqual(self.refused(Twice, book_of, *lines, "order a").name, "a")


if __name__ == "__main__":
    unittest.main()
