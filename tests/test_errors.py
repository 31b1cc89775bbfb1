"""The interface of sortlore.errors."""

import unittest

from sortlore import errors

FIELDS = {
    "NoSign": ("at", 3),
    "Round": ("pieces", ["a", "b"]),
    "NoRule": ("at", 0),
    "Clash": ("piece", "a"),
    "NoLetter": ("piece", "a"),
    "Twice": ("name", "swedish"),
    "NoText": None,
    "NotPlain": ("piece", "a"),
    "NoName": ("name", "danish"),
    "Ring": ("around", ["one", "other"]),
    "NoDeed": None,
}


def made(name):
    """An error of the class by this name, with its field's value where it has a field."""
    kind = getattr(errors, name)
    return kind() if FIELDS[name] is None else kind(FIELDS[name][1])


class Refusals(unittest.TestCase):
    def test_any_refusal_is_a_value_error(self):
        self.assertEqual(errors.LoreError.__bases__, (ValueError,))

    def test_eleven_refusals(self):
        kinds = [name for name, thing in vars(errors).items()
                 if isinstance(thing, type) and thing is not errors.LoreError]
        self.assertEqual(sorted(kinds), sorted(FIELDS))

    def test_each_is_a_lore_error_and_none_of_the_others(self):
        for name in FIELDS:
            error = made(name)
            self.assertIsInstance(error, errors.LoreError)
            self.assertIsInstance(error, ValueError)
            for other in FIELDS:
                same = isinstance(error, getattr(errors, other))
                self.assertEqual(same, name == other, (name, other))

    def test_each_has_its_field(self):
        for name, field in FIELDS.items():
            if field is not None:
                self.assertEqual(getattr(made(name), field[0]), field[1], name)

    def test_each_is_raised_and_taken_as_a_refusal(self):
        for name in FIELDS:
            with self.assertRaises(errors.LoreError):
                raise made(name)

    def test_lists_are_copies(self):
        for name, field in (("Round", "pieces"), ("Ring", "around")):
            given = ["a", "b"]
            error = getattr(errors, name)(given)
            given.append("c")
            self.assertEqual(getattr(error, field), ["a", "b"])
            getattr(error, field).append("d")
            self.assertEqual(given, ["a", "b", "c"])


if __name__ == "__main__":
    unittest.main()
