"""Point 34: the desk, and each row of the interface that it is told."""

import inspect
import itertools
import random
import re
import unittest

from sortlore.beside import beside
from sortlore.books import Book
from sortlore.desk import Desk
from sortlore.errors import (Clash, LoreError, NoDeed, NoLetter, NoName, NoRule, NoSign, NotPlain, NoText, Ring, Round,
                             Twice)
from sortlore.finds import found_in
from sortlore.going import compare
from sortlore.keys import key
from sortlore.shelves import Shelf

LINES = ["order lat", "row a b c d", "row c ch d", "marks ' `", "great a A", "great ch Ch CH", "as m a '", "as w a b",
         "over - .", "figures", "blanks", "order tur of lat", "forget b", "row c b ch", "behind", "order few",
         "row a b"]
# One row of each deed that is answered as it stands.
ROWS = ["tell order new", "open fresh lat", "put box a", "drop box b", "show box", "alike box 2 a", "begins box a",
        "letters lat", "key lat 3 a", "compare lat 4 a b", "find lat 1 a ba", "beside lat tur 4 ab"]
# The rows of the interface as they are written there, each kind of word by its own pattern.
FORMS = ["tell LINE", "open SHELF NAME", "put SHELF TEXT", "drop SHELF TEXT", "show SHELF", "alike SHELF STRENGTH TEXT",
         "begins SHELF TEXT", "letters NAME", "key NAME STRENGTH TEXT", "compare NAME STRENGTH ONE TEXT",
         "find NAME STRENGTH ONE TEXT", "beside NAME OTHER STRENGTH SIGNS"]
PATTERNS = {"LINE": ".*", "TEXT": ".*", "SHELF": "[^ ]+", "NAME": "[^ ]+", "OTHER": "[^ ]+", "STRENGTH": "[1-4]",
            "ONE": "[^ ]*", "SIGNS": "[^ ]*"}
# What is no name but stands where a word may.
NO_NAMES = ["A", "aB", "abcdefghi", "a1", "1", "-", "a.", "`", "{", "lat,"]


class Told(unittest.TestCase):
    def desk(self, *rows):
        """A desk with the book above, a shelf called box, and what is told behind."""
        desk = Desk()
        for line in LINES:
            desk.say("tell " + line)
        desk.say("open box lat")
        desk.say("put box b")
        for row in rows:
            desk.say(row)
        return desk

    def refused(self, kind, desk, row):
        with self.assertRaises(kind) as caught:
            desk.say(row)
        self.assertIs(type(caught.exception), kind, row)
        self.assertIsInstance(caught.exception, LoreError)
        return caught.exception

    def state(self, desk):
        """What a desk that was made by desk() answers, whatever else was told it."""
        seen = []
        for row in ["show box", "show other", "alike box 4 b", "begins box "] + [
                "letters " + name for name in ("lat", "tur", "few", "new", "next", "last")] + [
                "key few 4 ab", "key lat 2 m", "compare tur 4 b c", "find lat 1 a Ab", "beside lat tur 4 abc"]:
            try:
                seen.append(desk.say(row))
            except LoreError as error:
                seen.append((type(error), getattr(error, "name", None)))
        return seen


class Answers(Told):
    def check(self, desk, row, wanted):
        answer = desk.say(row)
        self.assertIs(type(answer), str)
        self.assertEqual(answer, wanted, row)

    def test_each_row_is_answered(self):
        wanted = ["ok", "ok", "ok", "ok", "b", "0 0", "0 0", "a b c ch d", "3 0 1 0 1 0", "before", "1-2", "never"]
        for row, answer in zip(ROWS, wanted):
            self.check(self.desk(), row, answer)

    def test_tell(self):
        desk = Desk()
        for line in LINES:
            self.check(desk, "tell " + line, "ok")
        self.check(desk, "letters lat", "a b c ch d")
        self.check(desk, "letters tur", "a c b ch d")
        self.check(desk, "letters few", "a b")

    def test_a_line_more_of_the_last_order(self):
        desk = self.desk()
        self.check(desk, "tell row b x", "ok")
        self.check(desk, "letters few", "a b x")
        self.check(desk, "letters lat", "a b c ch d")
        self.check(desk, "tell order next of few", "ok")
        self.check(desk, "tell forget b", "ok")
        self.check(desk, "letters next", "a x")
        self.check(desk, "letters few", "a b x")

    def test_an_elder_that_is_told_later(self):
        desk = Desk()
        desk.say("tell order a of b")
        desk.say("tell row x")
        self.assertEqual(self.refused(NoName, desk, "letters a").name, "b")
        desk.say("tell order b")
        desk.say("tell row z y")
        self.check(desk, "letters a", "z y x")

    def test_letters(self):
        desk = self.desk("tell order none", "tell order one", "tell row b")
        self.check(desk, "letters none", "")
        self.check(desk, "letters one", "b")

    def test_open_put_drop_show(self):
        desk = self.desk()
        self.check(desk, "open other tur", "ok")
        self.check(desk, "show other", "")
        for text in ("c", "b", "A", "a", "a-", "b c", ""):
            self.check(desk, "put other " + text, "ok")
        self.check(desk, "show other", "\na\na-\nA\nc\nb\nb c")
        self.check(desk, "drop other a-", "ok")
        self.check(desk, "drop other ", "ok")
        self.check(desk, "show other", "a\nA\nc\nb\nb c")
        self.check(desk, "show box", "b")
        self.check(desk, "drop box b", "ok")
        self.check(desk, "show box", "")

    def test_texts_with_blanks_and_without_signs(self):
        desk = self.desk("drop box b")
        for text in ("", " ", "  ", " a", "a ", "a  b", "a b c"):
            self.check(desk, "put box " + text, "ok")
            self.check(desk, "alike box 4 " + text, self.one_place(desk, text))
        self.check(desk, "show box", "\n \n  \n a\na \na  b\na b c")
        self.assertEqual(self.refused(Twice, desk, "put box  a").name, " a")
        self.assertEqual(self.refused(Twice, desk, "put box ").name, "")
        self.assertEqual(self.refused(Twice, desk, "put box   ").name, "  ")
        for text in ("", " ", "  ", " a", "a ", "a  b", "a b c"):
            self.check(desk, "drop box " + text, "ok")
        self.check(desk, "show box", "")

    def one_place(self, desk, text):
        at = desk.say("show box").split("\n").index(text)
        return f"{at} {at + 1}"

    def test_alike_and_begins(self):
        desk = self.desk("put box a", "put box A", "put box a'", "put box ab", "put box m", "put box ch", "put box cha",
                         "put box c", "put box 12", "put box 012", "put box 9")
        self.check(desk, "show box", "9\n012\n12\na\nA\na'\nm\nab\nb\nc\nch\ncha")
        for row, wanted in (("alike box 1 a", "3 7"), ("alike box 2 a", "3 5"), ("alike box 3 a", "3 4"),
                            ("alike box 2 m", "5 7"), ("alike box 4 m", "6 7"), ("alike box 3 12", "1 3"),
                            ("alike box 4 12", "2 3"), ("alike box 4 d", "12 12"), ("alike box 1 ", "0 0"),
                            ("alike box 1  a -", "3 7"), ("begins box ", "0 12"), ("begins box a", "3 8"),
                            ("begins box c", "9 10"), ("begins box ch", "10 12"), ("begins box 12", "1 3"),
                            ("begins box  - ", "0 12"), ("begins box d", "12 12"), ("begins box CH'a", "11 12")):
            self.check(desk, row, wanted)

    def test_key(self):
        desk = self.desk()
        for row, wanted in (("key lat 1 aCh", "3 6 0"), ("key lat 2 aCh'", "3 6 0 1 2 1 0"),
                            ("key lat 3 aCh", "3 6 0 1 1 0 1 2 0"), ("key lat 4 a b", "3 4 0 1 1 0 1 1 0 97 32 98 0"),
                            ("key lat 1 ", "0"), ("key lat 4 ", "0 0 0 0"), ("key lat 4  ", "0 0 0 32 0"),
                            ("key lat 1 12a", "2 13 3 0"), ("key tur 2 a'b", "3 5 0 1 2 1 0"),
                            ("key lat 2 a'b", "3 4 0 2 1 1 0")):
            self.check(desk, row, wanted)

    def test_compare(self):
        desk = self.desk()
        for row, wanted in (("compare lat 4 a b", "before"), ("compare lat 4 b a", "behind"),
                            ("compare lat 4 a a", "alike"), ("compare tur 1 b c", "behind"),
                            ("compare lat 1 b c", "before"), ("compare lat 1 a A", "alike"),
                            ("compare lat 3 a A", "before"), ("compare lat 3 a- a", "alike"),
                            ("compare lat 4 a- a", "behind"), ("compare lat 3 ab a b", "alike"),
                            ("compare lat 4 ab a b", "behind"), ("compare lat 3 a  a ", "alike")):
            self.check(desk, row, wanted)

    def test_compare_with_one_or_the_text_without_signs(self):
        desk = self.desk()
        self.check(desk, "compare lat 4  a", "before")
        self.check(desk, "compare lat 1 a ", "behind")
        self.check(desk, "compare lat 4  ", "alike")
        self.check(desk, "compare lat 3   ", "alike")
        self.check(desk, "compare lat 4   ", "before")
        self.check(desk, "compare lat 3   a", "before")

    def test_find(self):
        desk = self.desk()
        for row, wanted in (("find lat 4 a ba", "1-2"), ("find lat 1 a Aba'a", "0-1 2-4 4-5"),
                            ("find lat 2 a Aba'a", "0-1 4-5"), ("find lat 4 A Aba'a", "0-1"), ("find lat 4 b a", ""),
                            ("find lat 4 ab ab ab", "0-2 3-5"), ("find lat 3 ab a b", "0-3"),
                            ("find lat 1 a -a", "0-2 1-2"), ("find lat 4  ab", "0-0 1-1 2-2"), ("find lat 4  ", "0-0"),
                            ("find lat 4 a ", ""), ("find lat 3   ", "0-0 0-1 1-1"), ("find lat 1 12 a012", "1-4")):
            self.check(desk, row, wanted)

    def test_beside(self):
        desk = self.desk("tell row c")
        self.check(desk, "beside lat lat 4 abcAm", "never")
        self.check(desk, "beside lat tur 4 acdA", "never")
        self.check(desk, "beside lat tur 4 ab", "never")
        self.assertIn(desk.say("beside lat tur 4 bc"), ("b c", "c b"))
        self.assertIn(desk.say("beside tur lat 1 dcba"), ("b c", "c b"))
        self.check(desk, "beside few lat 4 ab", "never")
        self.check(desk, "beside lat tur 1 am", "never")
        texts = desk.say("beside lat tur 2 am").split(" ")
        self.assertEqual([len(text) for text in texts], [2, 2])
        self.assertNotEqual(desk.say("compare lat 2 " + " ".join(texts)), desk.say("compare tur 2 " + " ".join(texts)))

    def test_beside_with_texts_of_unlike_length(self):
        desk = self.desk("tell order one", "tell row a b", "tell order two", "tell row a", "tell great a b")
        for row in ("beside one two 3 ab", "beside two one 4 ba"):
            texts = desk.say(row).split(" ")
            self.assertEqual(sorted(len(text) for text in texts), [1, 2])
            told = {desk.say(f"compare {name} {row[15]} " + " ".join(texts)) for name in ("one", "two")}
            self.assertEqual(told, {"before", "behind"})

    def test_beside_without_signs(self):
        desk = self.desk()
        for strength in "1234":
            self.check(desk, f"beside lat tur {strength} ", "never")
            self.check(desk, f"beside few few {strength} ", "never")

    def test_each_strength_is_handed_on(self):
        desk = self.desk("put box a", "put box A", "put box m", "put box a-")
        self.assertEqual([desk.say(f"alike box {strength} a") for strength in "1234"], ["0 4", "0 3", "0 2", "0 1"])
        self.assertEqual([desk.say(f"key lat {strength} a").count("0") for strength in "1234"], [1, 2, 3, 4])
        self.assertEqual([desk.say(f"compare lat {strength} A a") for strength in "1234"],
                         ["alike", "alike", "behind", "behind"])
        self.assertEqual([desk.say(f"find lat {strength} a aAma-") for strength in "1234"],
                         ["0-1 1-2 2-3 3-4 3-5", "0-1 1-2 3-4 3-5", "0-1 3-4 3-5", "0-1 3-4"])
        self.assertEqual([desk.say(f"beside lat tur {strength} am") == "never" for strength in "1234"],
                         [True, False, False, False])

    def test_an_order_as_the_book_tells_it_now(self):
        desk = self.desk()
        self.check(desk, "compare few 4 b a", "behind")
        desk.say("tell great b B")
        self.check(desk, "compare few 4 b B", "before")
        desk.say("open other few")
        self.check(desk, "put other B", "ok")

    def test_a_desk_at_first(self):
        desk = Desk()
        self.assertEqual(str(inspect.signature(Desk)), "()")
        self.assertEqual(str(inspect.signature(Desk.say)), "(self, row)")
        for row in ROWS[1:]:
            self.refused(NoName, desk, row)

    def test_orders_and_shelves_have_names_apart(self):
        desk = self.desk("open lat tur")
        self.check(desk, "put lat c", "ok")
        self.check(desk, "show lat", "c")
        self.check(desk, "letters lat", "a b c ch d")
        self.assertEqual(self.refused(NoName, desk, "letters box").name, "box")
        self.assertEqual(self.refused(NoName, desk, "show tur").name, "tur")

    def test_names_of_one_and_eight_letters(self):
        desk = self.desk("tell order e of lat", "tell order abcdefgh of lat")
        for shelf, name in (("z", "e"), ("abcdefgh", "abcdefgh"), ("open", "e")):
            self.check(desk, f"open {shelf} {name}", "ok")
            self.check(desk, f"put {shelf} a", "ok")
            self.check(desk, f"show {shelf}", "a")
            self.check(desk, f"letters {name}", "a b c ch d")


class AsTheStagesTell(Told):
    """The desk's answers are those of the functions behind it."""

    def test_rows_of_chance(self):
        desk, book = self.desk(), Book("\n".join(LINES))
        shelf = Shelf(book.order_of("lat"))
        shelf.put("b")
        chance = random.Random(34)
        pieces = ["a", "A", "b", "c", "ch", "CH", "d", "'", "`", "m", "w", "-", " ", "7", "12"]
        texts = ["".join(chance.choices(pieces, k=chance.randrange(5))) for count in range(60)]
        for text in texts:
            self.assertEqual(self.outcome(desk.say, "put box " + text), self.outcome(self.as_ok, shelf.put, text))
        for text in texts[::3]:
            self.assertEqual(self.outcome(desk.say, "drop box " + text), self.outcome(self.as_ok, shelf.drop, text))
        self.assertEqual(desk.say("show box"), "\n".join(shelf.texts()))
        for name, strength in itertools.product(("lat", "tur"), (1, 2, 3, 4)):
            order = book.order_of(name)
            for one, text in zip(texts, texts[::-1]):
                self.assertEqual(desk.say(f"alike box {strength} {text}"), self.joined(shelf.alike(text, strength)))
                self.assertEqual(desk.say(f"begins box {text}"), self.joined(shelf.begins(text)))
                self.assertEqual(desk.say(f"key {name} {strength} {text}"), self.joined(key(order, text, strength)))
                one = one.replace(" ", "")
                self.assertEqual(desk.say(f"compare {name} {strength} {one} {text}"),
                                 ["alike", "behind", "before"][compare(order, one, text, strength)])
                self.assertEqual(self.outcome(desk.say, f"find {name} {strength} {one[:2]} {text}"),
                                 self.outcome(self.places, order, one[:2], text, strength))

    def test_orders_beside_one_another(self):
        desk, book = self.desk(), Book("\n".join(LINES))
        names = ("lat", "tur", "few")
        for one, other, strength in itertools.product(names, names, (1, 2, 3, 4)):
            for signs in ("", "a", "ab", "ba", "abcA", "bd", "mA", "aa"):
                row = f"beside {one} {other} {strength} {signs}"
                self.assertEqual(self.outcome(desk.say, row),
                                 self.outcome(self.pair, book.order_of(one), book.order_of(other), signs, strength))

    def pair(self, one, other, signs, strength):
        pair = beside(one, other, list(signs), strength)[0]
        return " ".join(pair) if pair else "never"

    def places(self, order, one, text, strength):
        return self.joined(f"{first}-{end}" for first, end in found_in(order, one, text, strength))

    def joined(self, things):
        return " ".join(str(thing) for thing in things)

    def as_ok(self, done, text):
        self.assertIsNone(done(text))
        return "ok"

    def outcome(self, done, *given):
        try:
            return done(*given)
        except LoreError as error:
            return (type(error), vars(error))


class NoDeeds(Told):
    def setUp(self):
        self.told = self.desk()
        self.before = self.state(self.told)

    def check(self, row):
        self.refused(NoDeed, self.told, row)

    def tearDown(self):
        self.assertEqual(self.state(self.told), self.before)

    def test_what_is_no_text(self):
        for row in (None, 1, True, ["show", "box"], ("show box",), {"show box": 1}, b"show box", 0.5, object(), str,
                    set()):
            self.check(row)

    def test_no_words(self):
        for row in ("", " ", "  "):
            self.check(row)

    def test_other_first_words(self):
        for row in ("Show box", "shows box", "sho box", "close box", "say box", "book", "order lat", "row a",
                    "keys lat 1 a", "finds lat 1 a b", "OPEN other lat", "tell,order new", "DEED box", "LINE box",
                    "box"):
            self.check(row)

    def test_the_first_word_alone(self):
        for row in ROWS:
            self.check(row.split(" ")[0])

    def test_too_few_words(self):
        for row in ROWS:
            words = row.split(" ")
            for count in range(1, len(words)):
                if words[0] == "tell" and count > 1:
                    continue
                self.check(" ".join(words[:count]))

    def test_too_few_words_with_a_blank_behind(self):
        for row in ("open ", "open other ", "show ", "letters ", "put ", "drop ", "begins ", "alike ", "alike box ",
                    "key ", "key lat ", "compare ", "compare lat ", "compare lat 4 ", "find ", "find lat ",
                    "find lat 4 ", "beside ", "beside lat ", "beside lat tur "):
            self.check(row)

    def test_a_blank_at_the_beginning(self):
        for row in ROWS:
            self.check(" " + row)
            self.check("  " + row)

    def test_a_blank_at_the_end(self):
        for row in ("open other lat ", "show box ", "letters lat ", "beside lat tur 4 ab ", "beside lat tur 4  "):
            self.check(row)

    def test_too_many_words(self):
        for row in ("open other lat tur", "show box box", "letters lat tur", "beside lat tur 4 a b",
                    "beside lat tur few 4 ab"):
            self.check(row)

    def test_two_blanks(self):
        """At each place where one stands, but ahead of what may begin with a blank or be without signs."""
        loose = {"tell": 0, "put": 1, "drop": 1, "alike": 2, "begins": 1, "key": 2, "compare": 2, "find": 2}
        for row in ROWS:
            words = row.split(" ")
            for at in range(1, len(words)):
                if at <= loose.get(words[0], 9):
                    self.check(" ".join(words[:at]) + "  " + " ".join(words[at:]))

    def test_a_wrong_strength(self):
        for strength in ("0", "5", "-1", "+1", "01", "11", "1.", "one", "a", "", "12", "4-", "STRENGTH"):
            for row in ("alike box %s a", "key lat %s a", "compare lat %s a b", "find lat %s a b",
                        "beside lat tur %s ab"):
                self.check(row % strength)

    def test_a_strength_left_out(self):
        for row in ("alike box a", "key lat ab", "compare lat a b", "find lat a ba", "beside lat tur ab"):
            self.check(row)

    def test_the_patterns_of_all_rows(self):
        """All rows of up to five of a few words behind each first word: refused just where no pattern fits."""
        fits = [re.compile(" ".join(PATTERNS.get(word, word) for word in form.split(" "))) for form in FORMS]
        firsts = [form.split(" ")[0] for form in FORMS] + ["", "close"]
        counts = {True: 0, False: 0}
        for first, size in itertools.product(firsts, range(6)):
            for words in itertools.product(["", "x", "4", "0"], repeat=size):
                row = " ".join([first, *words])
                known = any(pattern.fullmatch(row) for pattern in fits)
                counts[known] += 1
                # Nothing is there by the names x, 4 and 0, and no line of these words is a rule.
                wanted = (NoRule if first == "tell" else NoName) if known else NoDeed
                self.assertIs(self.kind(row), wanted, row)
        self.assertGreater(min(counts.values()), 1000)

    def kind(self, row):
        with self.assertRaises(LoreError) as caught:
            self.told.say(row)
        return type(caught.exception)

    def test_ahead_of_all_names(self):
        for row in ("open A", "show X y", "letters nope ", "key nope 5 ?", "alike nope 0 a", "compare nope 4 a",
                    "beside nope A 9 ?", "beside nope nope 4", "put nope", "drop A", "find A 4",
                    "beside lat nope 4 a b"):
            self.check(row)


class Names(Told):
    def no_name(self, row, name, desk=None):
        desk = desk or self.desk()
        before = self.state(desk)
        self.assertEqual(self.refused(NoName, desk, row).name, name, row)
        self.assertEqual(self.state(desk), before)

    def test_a_shelf_that_is_none(self):
        for name in [*NO_NAMES, "other", "lat", "bo", "boxx"]:
            for row in ("put %s a", "drop %s a", "show %s", "alike %s 2 a", "begins %s a"):
                self.no_name(row % name, name)

    def test_an_order_that_is_none(self):
        for name in [*NO_NAMES, "other", "box", "la", "latt"]:
            for row in ("letters %s", "key %s 2 a", "compare %s 1 a b", "find %s 1 a b", "beside %s lat 4 ab",
                        "beside lat %s 4 ab", "open other %s"):
                self.no_name(row % name, name)

    def test_a_new_shelf_by_no_name(self):
        for name in NO_NAMES:
            self.no_name(f"open {name} lat", name)

    def test_a_new_shelf_by_a_name_that_is_there(self):
        desk = self.desk()
        before = self.state(desk)
        for name in ("lat", "tur", "nope", "A"):
            self.assertEqual(self.refused(Twice, desk, f"open box {name}").name, "box")
        self.assertEqual(self.state(desk), before)
        desk.say("open other few")
        self.assertEqual(self.refused(Twice, desk, "open other few").name, "other")

    def test_from_the_left(self):
        self.no_name("open A B", "A")
        self.no_name("open A nope", "A")
        self.no_name("beside A B 4 a", "A")
        self.no_name("beside one two 4 a", "one")
        self.no_name("beside lat two 4 a", "two")
        self.no_name("beside lat B 4 ?", "B")

    def test_ahead_of_the_orders(self):
        desk = self.desk("tell order clash", "tell row a", "tell over a")
        self.assertEqual(self.refused(NoName, desk, "beside clash nope 4 a").name, "nope")
        self.assertEqual(self.refused(NoName, desk, "beside nope clash 4 a").name, "nope")
        self.assertEqual(self.refused(NoName, desk, "open A clash").name, "A")
        self.assertEqual(self.refused(Twice, desk, "open box clash").name, "box")
        self.assertEqual(self.refused(Clash, desk, "open other clash").piece, "a")

    def test_names_in_a_line_are_not_looked_at(self):
        desk = self.desk()
        self.assertEqual(desk.say("tell order new of nowhere"), "ok")
        self.assertEqual(self.refused(NoName, desk, "letters new").name, "nowhere")
        self.assertEqual(self.refused(NoRule, desk, "tell order New").at, len(LINES) + 1)

    def test_ahead_of_the_texts(self):
        self.no_name("put nope ?", "nope")
        self.no_name("drop nope ?", "nope")
        self.no_name("alike nope 1 ?", "nope")
        self.no_name("key nope 1 ?", "nope")
        self.no_name("compare nope 1 ? ?", "nope")


class Orders(Told):
    """Orders are made from the left, ahead of all else."""

    BAD = ["order clash", "row a", "over a", "order letter", "great x X", "order round", "row a b a",
           "order gone of none", "row a", "order ring of ringed", "order ringed of ring"]

    def setUp(self):
        self.told = self.desk(*["tell " + line for line in self.BAD])

    def test_each_refusal_of_a_book_and_an_order(self):
        for name, kind, field, value in (("clash", Clash, "piece", "a"), ("letter", NoLetter, "piece", "x"),
                                         ("round", Round, "pieces", ["a", "b"]), ("gone", NoName, "name", "none"),
                                         ("ring", Ring, "around", ["ring", "ringed"]),
                                         ("ringed", Ring, "around", ["ringed", "ring"])):
            for row in ("letters %s", "open other %s", "key %s 4 ?", "compare %s 4 ? ?", "find %s 4 ? ?",
                        "beside %s lat 4 ?", "beside lat %s 4 ?", "beside lat %s 4 ", "key %s 1 "):
                self.assertEqual(getattr(self.refused(kind, self.told, row % name), field), value)
        self.refused(NoName, self.told, "show other")

    def test_from_the_left(self):
        names = {"clash": Clash, "letter": NoLetter, "round": Round, "gone": NoName, "ring": Ring}
        for one, other in itertools.product(names, repeat=2):
            self.refused(names[one], self.told, f"beside {one} {other} 4 ab")

    def test_shelves_need_no_order_any_more(self):
        desk = Desk()
        for row in ("tell order a", "tell row a", "open box a", "tell over a"):
            desk.say(row)
        self.refused(Clash, desk, "letters a")
        rows = ("put box a", "show box", "alike box 1 a", "begins box a", "drop box a")
        self.assertEqual([desk.say(row) for row in rows], ["ok", "a", "0 1", "0 1", "ok"])


class AllElse(Told):
    def test_no_sign(self):
        desk = self.desk("put box a")
        before = self.state(desk)
        for row, at in (("put box a?", 1), ("drop box ?a", 0), ("alike box 1 ab?", 2), ("begins box ?", 0),
                        ("key lat 1 a?", 1), ("compare lat 1 ab? a", 2), ("compare lat 1 a a?", 1),
                        ("compare lat 4 ?? ?", 0), ("find lat 1 a? ?", 1), ("find lat 1 a a?b", 1),
                        ("key few 4 a b", 1), ("find lat 4  ?", 0), ("compare lat 4  a?", 1)):
            self.assertEqual(self.refused(NoSign, desk, row).at, at, row)
        self.assertEqual(self.state(desk), before)

    def test_twice_and_no_text(self):
        desk = self.desk("put box a b")
        before = self.state(desk)
        self.assertEqual(self.refused(Twice, desk, "put box b").name, "b")
        self.assertEqual(self.refused(Twice, desk, "put box a b").name, "a b")
        for text in ("a", "ab", "", "a  b", " b"):
            self.refused(NoText, desk, "drop box " + text)
        self.assertEqual(self.state(desk), before)

    def test_not_plain(self):
        desk = self.desk()
        for row, piece in (("beside lat tur 4 a?", "?"), ("beside lat tur 4 '", "'"), ("beside lat few 4 aA", "A"),
                           ("beside few lat 4 abw", "w"), ("beside lat tur 1 a-b", "-")):
            self.assertEqual(self.refused(NotPlain, desk, row).piece, piece)
        desk.say("tell row bb ba")
        self.assertEqual(self.refused(NotPlain, desk, "beside lat few 4 ab").piece, "ba")
        self.assertEqual(self.refused(NotPlain, desk, "beside few lat 4 ba").piece, "bb")

    def test_no_rule_with_its_number(self):
        desk = Desk()
        for line in ("", "row a", "x", "order", "order A", " order a", "order a ", "order a of", "forget a", " "):
            self.assertEqual(self.refused(NoRule, desk, "tell " + line).at, 0)
        for at, line in enumerate(LINES):
            for wrong in ("", "row", "x", "row  a", " row a", "row a ", "order a of B", "figures ."):
                if at:
                    self.assertEqual(self.refused(NoRule, desk, "tell " + wrong).at, at)
            desk.say("tell " + line)

    def test_an_order_that_is_there(self):
        desk = self.desk()
        for line in ("order lat", "order few of lat", "order tur"):
            self.assertEqual(self.refused(Twice, desk, "tell " + line).name, line.split(" ")[1])


class Kept(Told):
    def test_a_refused_line_changes_nothing(self):
        desk = self.desk()
        before = self.state(desk)
        for line in ("", "row", "order lat", "order few of lat", "order New", "row a  b", "rov a", " row b c"):
            with self.assertRaises(LoreError):
                desk.say("tell " + line)
            self.assertEqual(self.state(desk), before)
        # The next rule still goes to the order that was begun last, and the next number is the same.
        self.assertEqual(self.refused(NoRule, desk, "tell x").at, len(LINES))
        desk.say("tell row b z")
        self.assertEqual(desk.say("letters few"), "a b z")
        self.assertEqual(self.refused(NoRule, desk, "tell x").at, len(LINES) + 1)

    def test_a_refused_open_changes_nothing(self):
        desk = self.desk("tell order clash", "tell row a", "tell over a")
        before = self.state(desk)
        for row in ("open other clash", "open other nope", "open box lat", "open box few", "open other A", "open A lat",
                    "open other lat ", "open other"):
            with self.assertRaises(LoreError):
                desk.say(row)
            self.assertEqual(self.state(desk), before)
            self.assertEqual(self.refused(NoName, desk, "show other").name, "other")
        desk.say("open other lat")
        self.assertEqual(desk.say("show other"), "")

    def test_a_shelf_keeps_the_order_as_it_was(self):
        desk = self.desk("open other few", "put other b", "put other a", "tell great a A", "tell row c", "tell row x b")
        self.assertEqual(desk.say("letters few"), "a c x b")
        for text in ("A", "c", "x"):
            self.assertEqual(self.refused(NoSign, desk, "put other " + text).at, 0)
        self.assertEqual(desk.say("show other"), "a\nb")
        desk.say("open later few")
        for text in ("A", "c", "x", "b", "a"):
            desk.say("put later " + text)
        self.assertEqual(desk.say("show later"), "a\nA\nc\nx\nb")

    def test_a_shelf_whose_elder_gets_more_lines(self):
        desk = Desk()
        for row in ("tell order young of old", "tell row b", "tell order old", "tell row a b", "open box young",
                    "put box a", "put box b", "tell row z a"):
            desk.say(row)
        self.assertEqual(desk.say("letters young"), "z a b")
        self.assertEqual(desk.say("show box"), "a\nb")
        self.refused(NoSign, desk, "put box z")
        self.assertEqual(desk.say("compare young 4 z a"), "before")

    def test_what_is_asked_changes_nothing(self):
        desk = self.desk("put box a", "put box ch")
        before = self.state(desk)
        for row in ROWS:
            if row.split(" ")[0] not in ("tell", "open", "put", "drop"):
                desk.say(row)
        self.assertEqual(self.state(desk), before)

    def test_two_desks_keep_apart(self):
        one, other = self.desk(), self.desk()
        before = self.state(other)
        for row in ("tell row b q", "tell order new", "open other lat", "put box a", "drop box b"):
            one.say(row)
        self.assertEqual(self.state(other), before)
        self.assertNotEqual(self.state(one), before)
        fresh = Desk()
        self.assertEqual(self.refused(NoName, fresh, "letters lat").name, "lat")
        self.assertEqual(self.refused(NoName, fresh, "show box").name, "box")


class Sizes(Told):
    def test_a_book_of_three_hundred_lines_and_sixty_orders(self):
        desk = Desk()
        names = [one + other for one in "abcdefgh" for other in "abcdefgh"][:60]
        desk.say("tell order aa")
        for elder, name in zip(names, names[1:]):
            great = f"great {elder} {elder[::-1].upper()}"
            for line in (f"order {name} of {elder}", f"row {elder} {name}", "over .", great, "forget x"):
                desk.say("tell " + line)
        self.assertEqual(self.refused(NoRule, desk, "tell ").at, 296)
        self.assertEqual(desk.say("letters " + names[-1]), " ".join(names))
        self.assertEqual(desk.say("compare " + names[-1] + " 3 aaBAAA ...aaabaa"), "behind")

    def test_three_hundred_texts(self):
        desk = self.desk("drop box b")
        texts = ["".join(text) for size in (3, 4) for text in itertools.product("abcd", repeat=size)][:300]
        for text in texts[::-1]:
            desk.say("put box " + text)
        self.assertEqual(desk.say("show box"), "\n".join(sorted(texts)))
        self.assertEqual(desk.say("begins box abc"), self.stretch(sorted(texts), "abc"))

    def stretch(self, texts, begin):
        at = [count for count, text in enumerate(texts) if text.startswith(begin)]
        return f"{at[0]} {at[-1] + 1}"

    def test_texts_of_three_hundred_signs(self):
        desk = self.desk()
        self.assertEqual(desk.say("key lat 1 " + "9" * 300), "2 1" + "0" * 300 + " 0")
        self.assertEqual(desk.say("find lat 4 " + "ab" * 75 + " " + "ab" * 150), " ".join(
            f"{at}-{at + 150}" for at in range(0, 151, 2)))


if __name__ == "__main__":
    unittest.main()
