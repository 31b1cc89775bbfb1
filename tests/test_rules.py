"""Points 9 and 10: rules read and shown, and an elder's changed by a younger one's."""

import copy
import itertools
import unittest

from sortlore.errors import NoRule
from sortlore.rules import changed, read_rule, show_rule

FEWEST = {"row": 1, "marks": 1, "great": 2, "as": 2, "over": 1, "forget": 1}
BARE = ["figures", "blanks", "behind"]
PIECES = ["a", "ch", "~", "!", "0", "z9", "a"]


class Reading(unittest.TestCase):
    def refused(self, line):
        with self.assertRaises(NoRule, msg=repr(line)) as caught:
            read_rule(line)
        self.assertEqual(caught.exception.at, 0)
        self.assertIs(type(caught.exception.at), int)

    def test_words_with_pieces(self):
        for word, fewest in FEWEST.items():
            for count in range(len(PIECES) + 1):
                rule = (word,) + tuple(PIECES[:count])
                line = " ".join(rule)
                if count < fewest:
                    self.refused(line)
                    self.refused(line + " ")
                else:
                    self.assertEqual(read_rule(line), rule)
                    self.assertIs(type(read_rule(line)), tuple)

    def test_words_without_pieces(self):
        for word in BARE:
            self.assertEqual(read_rule(word), (word,))
            for pieces in (" a", " ch", " a b", " ", "  "):
                self.refused(word + pieces)

    def test_other_words(self):
        for word in ["", "rows", "ro", "Row", "ROW", "mark", "figure", "order", "a", "row,", "%", "forgets"]:
            self.refused(word)
            self.refused(word + " a")
            self.refused(word + " a b")

    def test_blanks_too_many(self):
        for word, fewest in FEWEST.items():
            line = " ".join([word] + PIECES[:fewest + 1])
            read_rule(line)
            self.refused(" " + line)
            self.refused(line + " ")
            for at, sign in enumerate(line):
                if sign == " ":
                    self.refused(line[:at] + " " + line[at:])
        for word in BARE:
            self.refused(" " + word)
        for line in ["", " ", "  ", "   a"]:
            self.refused(line)

    def test_no_pieces_behind_the_word(self):
        wrong = ["abc", "%", "a%", "%a", "\t", "a\t", "\n", "a\n", "\xe4", "\x7f", "row"]
        for word, fewest in FEWEST.items():
            for at in range(fewest + 2):
                for text in wrong:
                    pieces = PIECES[:fewest + 2]
                    pieces[at] = text
                    self.refused(" ".join([word] + pieces))

    def test_other_white_space(self):
        for line in ["row\ta", "row\na", "row a\n", "\nrow a", "row a\tb", "figures\n", "behind\t", "row a\nb"]:
            self.refused(line)

    def test_what_is_no_text(self):
        things = [None, True, False, 0, 1, 1.5, b"row a", [], ["row", "a"], ("row", "a"), ("figures",),
                  {}, {"row": 1}, {"row"}, object(), str]
        for thing in things:
            self.refused(thing)

    def test_a_long_line(self):
        rule = ("row",) + tuple(["a"] * 148)
        self.assertEqual(read_rule(" ".join(rule)), rule)

    def test_shown(self):
        self.assertEqual(show_rule(("row", "a", "ch", "b")), "row a ch b")
        self.assertEqual(show_rule(("figures",)), "figures")
        self.assertEqual(show_rule(("as", "~", "a", "!")), "as ~ a !")

    def test_the_line_of_a_rule_is_read_as_the_same_rule(self):
        rules = [(word,) for word in BARE]
        for word, fewest in FEWEST.items():
            for count in (fewest, fewest + 1, len(PIECES)):
                rules.append((word,) + tuple(PIECES[:count]))
        for rule in rules:
            self.assertEqual(read_rule(show_rule(rule)), rule)


class Changed(unittest.TestCase):
    def check(self, elder, younger, wanted):
        """All of them by their lines; both lists stay as they were."""
        rules = [read_rule(line) for line in elder]
        more = [read_rule(line) for line in younger]
        before = copy.deepcopy((rules, more))
        got = changed(rules, more)
        self.assertEqual([show_rule(rule) for rule in got], wanted)
        self.assertTrue(all(type(rule) is tuple for rule in got))
        self.assertEqual((rules, more), before)

    def test_no_rules(self):
        self.check([], [], [])
        self.check(["row a", "figures"], [], ["row a", "figures"])
        self.check([], ["row a", "figures"], ["row a", "figures"])
        self.check([], ["forget a"], [])

    def test_the_younger_ones_behind_in_their_order(self):
        self.check(["row b a", "over -"], ["marks '", "row c", "as x a"],
                   ["row b a", "over -", "marks '", "row c", "as x a"])
        self.check(["row a"], ["row a", "row a"], ["row a", "row a", "row a"])

    def test_named_once_twice_and_not_at_all(self):
        for word in ("row", "marks", "over"):
            self.check([word + " a x b"], ["forget x"], [word + " a b"])
            self.check([word + " x a x x b x"], ["forget x"], [word + " a b"])
            self.check([word + " a b"], ["forget x"], [word + " a b"])
            self.check([word + " a b c d"], ["forget d b"], [word + " a c"])

    def test_forms_of_great(self):
        self.check(["great a A x B"], ["forget x"], ["great a A B"])
        self.check(["great a x A x"], ["forget x"], ["great a A"])
        self.check(["great a A B"], ["forget x"], ["great a A B"])

    def test_the_letter_of_a_great_stays(self):
        self.check(["great x A"], ["forget x"], ["great x A"])
        self.check(["great x A x B"], ["forget x"], ["great x A B"])
        self.check(["great x A"], ["forget x A"], [])

    def test_the_parts_of_an_as_stay(self):
        self.check(["as p x", "as q a x b x"], ["forget x"], ["as p x", "as q a x b x"])
        self.check(["as x a", "as p a"], ["forget x"], ["as p a"])
        self.check(["as x x"], ["forget x"], [])
        self.check(["as a b"], ["forget x"], ["as a b"])

    def test_rules_without_pieces_stay(self):
        self.check(["figures", "blanks", "behind"], ["forget a b"], ["figures", "blanks", "behind"])

    def test_nothing_left(self):
        self.check(["row x", "marks x x", "over x", "great a x", "row b"], ["forget x"], ["row b"])
        self.check(["row x y"], ["forget x", "forget y"], [])
        self.check(["great x y z"], ["forget z y"], [])

    def test_a_piece_is_named_whole(self):
        self.check(["row c ch h"], ["forget ch"], ["row c h"])
        self.check(["row c ch h"], ["forget c h"], ["row ch"])
        self.check(["row a A"], ["forget a"], ["row A"])

    def test_no_forget_rule_is_told(self):
        self.check(["row a b", "forget a", "row c"], [], ["row a b", "row c"])
        self.check(["row a b", "forget b"], ["forget a", "row d", "forget d"], ["row b", "row d"])

    def test_the_elders_forget_rules_take_nothing_out(self):
        self.check(["row a b", "forget b", "great a A", "forget A"], ["row b c"],
                   ["row a b", "great a A", "row b c"])

    def test_the_younger_ones_rules_are_told_whole(self):
        younger = ["row x a", "marks x", "great a x", "as x a", "over x", "figures", "blanks", "behind"]
        self.check(["row x b"], younger[:4] + ["forget x"] + younger[4:], ["row b"] + younger)
        self.check(["row x b"], ["forget x"] + younger, ["row b"] + younger)

    def test_several_forget_rules(self):
        self.check(["row a b c d e"], ["forget a", "row z", "forget c c", "forget e y"], ["row b d", "row z"])

    def test_many_pieces(self):
        signs = [chr(code) for code in range(ord("!"), ord("~") + 1) if chr(code) != "%"]
        pieces = list(itertools.islice((one + other for one in signs for other in signs), 600))
        rules = [("row",) + tuple(pieces[at:at + 2]) for at in range(0, 600, 2)]
        more = [("forget",) + tuple(pieces[1::2]), ("row",) + tuple(pieces[1::2])]
        wanted = [("row", piece) for piece in pieces[::2]] + [more[1]]
        self.assertEqual(changed(rules, more), wanted)

    def test_each_list_is_the_askers_own(self):
        for forget in ([], [("forget", "b")]):
            rules = [("row", "a"), ("figures",)]
            more = forget + [("row", "c")]
            wanted = [("row", "a"), ("figures",), ("row", "c")]
            got = changed(rules, more)
            kept = list(more)
            got.append(("row", "z"))
            got[0] = ("blanks",)
            self.assertEqual(rules, [("row", "a"), ("figures",)])
            self.assertEqual(more, kept)
            self.assertEqual(changed(rules, more), wanted)

    def test_what_is_done_to_the_lists_later_changes_nothing(self):
        for rules, more in (([("row", "a")], []), ([], [("row", "a")])):
            got = changed(rules, more)
            rules.append(("row", "b"))
            more.append(("row", "c"))
            self.assertEqual(got, [("row", "a")])


if __name__ == "__main__":
    unittest.main()
