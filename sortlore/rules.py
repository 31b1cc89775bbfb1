"""Rules: read from lines, shown as lines, and an elder's changed by a younger one's."""

from sortlore.errors import NoRule
from sortlore.pieces import is_piece

# The fewest pieces behind each word that has any.
FEWEST = {"row": 1, "marks": 1, "great": 2, "as": 2, "over": 1, "forget": 1}
BARE = ("figures", "blanks", "behind")
# Of the words that lose forgotten pieces, how many texts at the beginning stay all the same.
STAYING = {"row": 1, "marks": 1, "over": 1, "great": 2}


def is_rule(words):
    """Whether these words, as they stand in a line, are a rule."""
    pieces = words[1:]
    if words[0] in BARE:
        return not pieces
    if words[0] not in FEWEST:
        return False
    return len(pieces) >= FEWEST[words[0]] and all([is_piece(piece) for piece in pieces])


def read_rule(line):
    """The rule that a line tells, or NoRule."""
    if not isinstance(line, str):
        raise NoRule(0)
    # A blank too many leaves a word without signs, which is neither a rule's word nor a piece.
    words = line.split(" ")
    if not is_rule(words):
        raise NoRule(0)
    return tuple(words)


def show_rule(rule):
    """The line of a rule."""
    return " ".join(rule)


def forgotten(rules):
    """The pieces that the forget rules among these name, as the keys of a dict."""
    gone = {}
    for rule in rules:
        if rule[0] == "forget":
            for piece in rule[1:]:
                gone[piece] = True
    return gone


def without(rule, gone):
    """The rule without the pieces that are gone, or None where nothing of it is told."""
    word = rule[0]
    if word == "as":
        return None if rule[1] in gone else rule
    if word not in STAYING:
        return rule
    left = tuple([piece for piece in rule[STAYING[word]:] if piece not in gone])
    return rule[:STAYING[word]] + left if left else None


def changed(rules, more):
    """The elder's rules changed by the younger one's."""
    gone = forgotten(more)
    elder = [without(rule, gone) for rule in rules]
    both = [rule for rule in elder if rule is not None] + list(more)
    return [rule for rule in both if rule[0] != "forget"]
