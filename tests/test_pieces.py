"""Points 4, 5 and 6: pieces, texts cut by them, and where the parts begin."""

import inspect
import itertools
import unittest

from sortlore.errors import NoSign
from sortlore.pieces import cut, is_piece, starts

GOOD = [chr(code) for code in range(ord("!"), ord("~") + 1) if chr(code) != "%"]


class IsPiece(unittest.TestCase):
    def test_one_sign(self):
        for code in range(0, 400):
            self.assertIs(is_piece(chr(code)), chr(code) in GOOD, code)

    def test_two_signs(self):
        signs = [" ", "!", "$", "%", "&", "0", "a", "~", "\x7f", "\n", "\t", "\xe4"]
        for one, other in itertools.product(signs, signs):
            self.assertIs(is_piece(one + other), one in GOOD and other in GOOD, (one, other))

    def test_other_lengths(self):
        for text in ["", "abc", "a b", "abcd", "!!!", "   "]:
            self.assertIs(is_piece(text), False, text)

    def test_no_text_at_all(self):
        things = [None, True, False, 0, 1, 97, -1, 1.5, b"a", b"ab", [], ["a"], ["a", "b"], (),
                  ("a",), ("a", "b"), {}, {"a": 1}, {"a"}, object(), str, len]
        for thing in things:
            self.assertIs(is_piece(thing), False, thing)


class Cut(unittest.TestCase):
    def refused(self, at, known, text, figures=False):
        with self.assertRaises(NoSign) as caught:
            cut(known, text, figures)
        self.assertEqual(caught.exception.at, at)
        self.assertIs(type(caught.exception.at), int)

    def test_its_arguments(self):
        self.assertEqual(str(inspect.signature(cut)), "(known, text, figures=False)")

    def test_one_sign_each(self):
        self.assertEqual(cut(["a", "b"], "abba"), ["a", "b", "b", "a"])

    def test_the_longer_first(self):
        for known in (["c", "h", "ch"], ["ch", "h", "c"]):
            self.assertEqual(cut(known, "cchhc"), ["c", "ch", "h", "c"])
        self.assertEqual(cut(["a", "aa"], "aaaaa"), ["aa", "aa", "a"])

    def test_it_never_goes_back(self):
        self.refused(2, ["ab", "a", "bc"], "abc")
        self.refused(2, ["aa"], "aaa")

    def test_the_text_without_signs(self):
        for known in ([], ["a"], [" "]):
            self.assertEqual(cut(known, ""), [])
            self.assertEqual(cut(known, "", True), [])

    def test_the_blank_as_a_known_piece(self):
        self.assertEqual(cut(["a", " "], " a  a "), [" ", "a", " ", " ", "a", " "])
        self.refused(1, ["a"], "a a")

    def test_a_piece_that_is_known_twice(self):
        self.assertEqual(cut(["a", "a", "b"], "ab"), ["a", "b"])

    def test_figures_by_worth(self):
        self.assertEqual(cut(["a"], "a12a3", True), ["a", "12", "a", "3"])
        self.assertEqual(cut([], "0123456789", True), ["0123456789"])
        self.assertEqual(cut(["a"], "007", figures=True), ["007"])

    def test_signs_beside_the_figures_are_none(self):
        self.assertEqual(cut(["/", ":"], "//::/0:", True), ["/", "/", ":", ":", "/", "0", ":"])
        self.refused(1, [], "1/", True)
        self.refused(1, [], "9:", True)

    def test_figures_as_other_signs(self):
        self.assertEqual(cut(["1", "2", "12"], "1122"), ["1", "12", "2"])
        self.assertEqual(cut(["1", "2"], "12", False), ["1", "2"])
        self.refused(1, ["a"], "a1")
        self.refused(1, ["a"], "a1", False)

    def test_known_pieces_with_a_figure_beside_a_run(self):
        self.assertEqual(cut(["1", "12", "23"], "1234", True), ["1234"])
        self.assertEqual(cut(["a", "a1"], "a123", True), ["a1", "23"])
        self.assertEqual(cut(["a", "a1"], "a1", True), ["a1"])
        self.assertEqual(cut(["a", "1a"], "11aa", True), ["11", "a", "a"])
        self.refused(1, ["1a"], "1a", True)

    def test_no_sign_at_the_first_place(self):
        self.refused(0, [], "a")
        self.refused(0, ["b", "ab"], "aab")
        self.refused(0, ["a"], "ba")

    def test_no_sign_behind_others(self):
        self.refused(2, ["a", "b"], "abc")
        self.refused(2, ["ab"], "ab?ab?")
        self.refused(3, ["a"], "123b", True)
        self.refused(1, ["a", "bc"], "ab")

    def test_the_first_half_of_a_piece_is_no_piece(self):
        self.refused(0, ["ab"], "a")
        self.refused(0, ["ab"], "ba")

    def test_against_the_words_of_the_point(self):
        pool = ["a", "1", "a1", "1a", "11", "aa"]
        texts = ["".join(signs) for size in range(5) for signs in itertools.product("a1b", repeat=size)]
        for size in range(len(pool) + 1):
            for known in itertools.combinations(pool, size):
                for text, figures in itertools.product(texts, (False, True)):
                    self.check(list(known), text, figures)

    def check(self, known, text, figures):
        wanted = plain_cut(known, text, figures)
        if isinstance(wanted, int):
            self.refused(wanted, known, text, figures)
            return
        parts = cut(known, text, figures)
        self.assertEqual(parts, wanted, (known, text, figures))
        self.assertEqual("".join(parts), text)

    def test_long_ones(self):
        known = [one + other for one in GOOD[:17] for other in GOOD[:17]] + GOOD[:11]
        self.assertEqual(len(known), 300)
        self.assertEqual(cut(known, GOOD[0] * 300), [GOOD[0] * 2] * 150)
        self.assertEqual(cut(known, "7" * 300, True), ["7" * 300])
        self.refused(299, known, GOOD[0] * 299 + "~")

    def test_nothing_handed_in_is_changed(self):
        known = ["b", "a", "ab"]
        cut(known, "aab12", True)
        self.refused(0, known, "c")
        self.assertEqual(known, ["b", "a", "ab"])

    def test_each_list_is_the_askers_own(self):
        known = ["a", "b"]
        parts = cut(known, "ab")
        parts.append("c")
        known.append("d")
        self.assertEqual(cut(["a", "b"], "ab"), ["a", "b"])
        self.assertEqual(parts, ["a", "b", "c"])
        self.refused(0, ["a", "b"], "d")


def plain_cut(known, text, figures):
    """The parts as point 5 tells them, or the place of the refusal; by the rest of the text."""
    parts = []
    rest = text
    while rest:
        run = len(rest) - len(rest.lstrip("0123456789")) if figures else 0
        sizes = [run] if run else [size for size in (2, 1) if rest[:size] in known]
        if not sizes:
            return len(text) - len(rest)
        size = min(sizes[0], len(rest))
        parts.append(rest[:size])
        rest = rest[size:]
    return parts


class Starts(unittest.TestCase):
    def test_no_parts(self):
        self.assertEqual(starts([]), [0])

    def test_parts_of_one_sign(self):
        self.assertEqual(starts(["a"]), [0, 1])
        self.assertEqual(starts(["a", " ", "a"]), [0, 1, 2, 3])

    def test_parts_of_two_signs(self):
        self.assertEqual(starts(["ch"]), [0, 2])
        self.assertEqual(starts(["ch", "a", "ch"]), [0, 2, 3, 5])

    def test_runs_of_figures(self):
        self.assertEqual(starts(["007", "a", "12345"]), [0, 3, 4, 9])

    def test_of_a_cut_text(self):
        text = "ach 1234cha"
        parts = cut(["a", "ch", " "], text, True)
        places = starts(parts)
        self.assertEqual(places, [0, 1, 3, 4, 8, 10, 11])
        self.assertEqual([text[one:other] for one, other in zip(places, places[1:])], parts)

    def test_three_hundred_parts(self):
        self.assertEqual(starts(["a"] * 300), list(range(301)))

    def test_nothing_handed_in_is_changed_and_each_list_is_new(self):
        parts = ["ab", "c"]
        places = starts(parts)
        places.append(9)
        self.assertEqual(parts, ["ab", "c"])
        self.assertEqual(starts(parts), [0, 2, 3])
        starts([]).append(1)
        self.assertEqual(starts([]), [0])


if __name__ == "__main__":
    unittest.main()
