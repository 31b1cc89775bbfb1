"""Books: orders by names, told line by line, each perhaps made of an elder one."""

from sortlore.errors import NoName, NoRule, Ring, Twice
from sortlore.orders import Order
from sortlore.rules import changed, read_rule


def is_name(word):
    """Whether a text is a name, of an order or a shelf."""
    return 1 <= len(word) <= 8 and all(["a" <= sign <= "z" for sign in word])


def is_beginning(words):
    """Whether these words, as they stand in a line, begin an order."""
    if words[0] != "order":
        return False
    if len(words) == 2:
        return is_name(words[1])
    return len(words) == 4 and is_name(words[1]) and words[2] == "of" and is_name(words[3])


class Book:
    """Orders by names, told by a text or line by line."""

    def __init__(self, text):
        # For each order its own rules, in the book's turn; for those that have one, the elder.
        self.own = {}
        self.elders = {}
        self.newest = None
        self.length = 0
        if text:
            for line in text.split("\n"):
                self.tell(line)

    def tell(self, line):
        """Adds one line at the end, or refuses it with NoRule or Twice."""
        words = line.split(" ")
        if is_beginning(words):
            self.begin(words)
        else:
            self.add_rule(line)
        self.length += 1

    def begin(self, words):
        """Begins the order that these words of a line name, or refuses it with Twice."""
        name = words[1]
        if name in self.own:
            raise Twice(name)
        self.own[name] = []
        if len(words) > 2:
            self.elders[name] = words[3]
        self.newest = name

    def add_rule(self, line):
        """Adds the rule that a line tells to the newest order, or refuses it with NoRule."""
        if self.newest is None:
            raise NoRule(self.length)
        try:
            rule = read_rule(line)
        except NoRule:
            # There it is told as the only line, here it has a number.
            raise NoRule(self.length) from None
        self.own[self.newest].append(rule)

    def names(self):
        """The names of all orders, in the book's turn."""
        return list(self.own)

    def elders_from(self, name):
        """The names that are met from this one on, from elder to elder, or NoName or Ring."""
        met = []
        at = name
        while at is not None:
            if at not in self.own:
                raise NoName(at)
            if at in met:
                raise Ring(met[met.index(at):])
            met.append(at)
            at = self.elders.get(at)
        return met

    def rules_of(self, name):
        """The rules by which the order of a name is made, or NoName or Ring."""
        rules = []
        for elder in reversed(self.elders_from(name)):
            rules = changed(rules, self.own[elder])
        return rules

    def order_of(self, name):
        """The order of a name, or NoName or Ring, or what Order refuses with."""
        return Order(self.rules_of(name))
