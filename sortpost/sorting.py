"""What becomes of one letter by a text of rules."""

from sortpost.errors import BadLetter
from sortpost.letters import in_order, is_letter
from sortpost.reading import read


def sort(rules, letter):
    """The names it is filed under, its marks, the names it is passed on to."""
    rows = read(rules)
    check_letter(letter)
    return way_through(rows, letter).outcome()


def acting(rules, letter):
    """The numbers of the rules that act."""
    rows = read(rules)
    check_letter(letter)
    return way_through(rows, letter).acts


def check_letter(letter):
    """Refuses what is no letter."""
    if not is_letter(letter):
        raise BadLetter("a letter is a triple of a name, a list of names and a size")


def way_through(rules, letter):
    """The way of a letter through rules that were read."""
    way = Way(letter)
    for number, rule in enumerate(rules):
        if way.stopped:
            return way
        if way.holds(rule.condition):
            way.act(number, rule.deeds)
    return way


class Way:
    """The way of a letter through rules: what has become of it so far."""

    def __init__(self, letter):
        self.sender, words, self.size = letter
        self.words = list(words)
        self.marks = {}
        self.folders = {}
        self.receivers = {}
        self.acts = []
        self.stopped = False

    def outcome(self):
        """What became of the letter."""
        return list(self.folders), in_order(list(self.marks)), list(self.receivers)

    def act(self, number, deeds):
        """Does the deeds of the rule of this number in turn, till one of them stops."""
        self.acts.append(number)
        for kind, name in deeds:
            if kind == "mark":
                self.marks[name] = True
            elif kind == "unmark":
                self.marks.pop(name, None)
            elif kind == "file":
                self.folders[name] = True
            elif kind == "pass":
                self.receivers[name] = True
            else:
                self.stopped = True
                return

    def holds(self, condition):
        """Tells whether a condition holds now."""
        kind = condition[0]
        if kind == "not":
            return not self.holds(condition[1])
        if kind == "and":
            return all(self.holds(part) for part in condition[1])
        if kind == "or":
            return any(self.holds(part) for part in condition[1])
        if kind == "any":
            return True
        return self.fact_holds(kind, condition[1], condition)

    def fact_holds(self, kind, worth, fact):
        """Tells whether a fact holds now."""
        if kind == "from":
            return self.sender == worth
        if kind == "over":
            return self.size > worth
        if kind == "marked":
            return worth in self.marks
        if kind == "has":
            return worth in self.words
        if kind == "first":
            return self.words[:1] == [worth]
        if kind == "last":
            return self.words[-1:] == [worth]
        return self.has_pair(worth, fact[2])

    def has_pair(self, one, other):
        """Tells whether the one word is somewhere straight ahead of the other."""
        for at in range(1, len(self.words)):
            if self.words[at - 1] == one and self.words[at] == other:
                return True
        return False
