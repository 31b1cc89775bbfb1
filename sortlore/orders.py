"""Orders: what a list of rules makes together, or why it can't be one order."""

from sortlore.aheads import lined_up
from sortlore.errors import Clash, NoLetter
from sortlore.pieces import is_figure

# The kinds of the elements of a text, the one with the less number before the other.
MARK = 0
FIGURES = 1
LETTER = 2

# The job that each word gives; the other words give none.
JOBS = {"row": "letter", "marks": "mark", "great": "great", "as": "as", "over": "over"}
# The jobs that a piece may be told of more than once.
AGAIN = ("letter", "mark", "over")


def has_rule(rules, word):
    """Whether a rule with this word is among the rules."""
    return any([rule[0] == word for rule in rules])


def pieces_told(rule):
    """The pieces that a rule tells a job of."""
    if rule[0] == "great":
        return rule[2:]
    if rule[0] == "as":
        return rule[1:2]
    return rule[1:] if rule[0] in JOBS else ()


def is_clash(jobs, piece, job, figures):
    """Whether a piece can't get a job beside the jobs that were told ahead."""
    if piece in jobs and (jobs[piece] != job or job not in AGAIN):
        return True
    return figures and any([is_figure(sign) for sign in piece])


def jobs_of(rules):
    """The job of each piece that has one, or Clash."""
    figures = has_rule(rules, "figures")
    jobs = {}
    for rule in rules:
        for piece in pieces_told(rule):
            if is_clash(jobs, piece, JOBS[rule[0]], figures):
                raise Clash(piece)
            jobs[piece] = JOBS[rule[0]]
    # The blank is no piece, so no rule can tell another job of it.
    if has_rule(rules, "blanks"):
        jobs[" "] = "over"
    return jobs


def misused(rule, jobs):
    """The pieces from the left that a rule leans on and that have not the job for it."""
    if rule[0] == "great":
        return [piece for piece in rule[1:2] if jobs.get(piece) != "letter"]
    if rule[0] == "as":
        first = [piece for piece in rule[2:3] if jobs.get(piece) != "letter"]
        return first + [piece for piece in rule[3:] if jobs.get(piece) not in ("letter", "mark")]
    return []


def check_letters(rules, jobs):
    """Refuses with NoLetter where a great form or a counting piece leans on what is no letter."""
    for rule in rules:
        wrong = misused(rule, jobs)
        if wrong:
            raise NoLetter(wrong[0])


def line_of(rules, word):
    """The pieces of all rules with this word lined up, or Round."""
    return lined_up([list(rule[1:]) for rule in rules if rule[0] == word])


def forms_of(rules):
    """For each letter that has great forms, these in their order."""
    forms = {}
    for rule in rules:
        if rule[0] == "great":
            forms.setdefault(rule[1], []).extend(rule[2:])
    return forms


def steps_of(rules, letters, marks):
    """For each piece that is not passed over, what it makes in turn: tuples (kind, place, case)."""
    steps = {}
    for place, letter in enumerate(letters):
        steps[letter] = ((LETTER, place, 0),)
    for place, mark in enumerate(marks):
        steps[mark] = ((MARK, place, 0),)
    forms = forms_of(rules)
    for letter in forms:
        for case, form in enumerate(forms[letter], start=1):
            steps[form] = ((LETTER, steps[letter][0][1], case),)
    for rule in rules:
        if rule[0] == "as":
            # Each part is a letter or a mark, which makes just one step.
            steps[rule[1]] = tuple([steps[part][0] for part in rule[2:]])
    return steps


class Order:
    """An order of writing, made of a list of rules."""

    def __init__(self, rules):
        self.figures = has_rule(rules, "figures")
        self.behind = has_rule(rules, "behind")
        self.jobs = jobs_of(rules)
        check_letters(rules, self.jobs)
        self.letter_line = line_of(rules, "row")
        self.mark_line = line_of(rules, "marks")
        self.made = steps_of(rules, self.letter_line, self.mark_line)

    def letters(self):
        """The letters in their turn."""
        return list(self.letter_line)

    def marks(self):
        """The marks in their turn."""
        return list(self.mark_line)

    def job(self, piece):
        """The job of a piece, or None for a text that has no job."""
        return self.jobs.get(piece)

    def known(self):
        """All pieces that have a job."""
        return list(self.jobs)

    def steps(self, piece):
        """What a piece with a job makes in turn: tuples (kind, place, case); a mark is of kind MARK."""
        return self.made.get(piece, ())
