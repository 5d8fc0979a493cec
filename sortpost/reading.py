"""Reads texts of rules, and tells what is wrong with them."""

from sortpost.errors import BadRule, BadText, TooMany
from sortpost.letters import is_name

MOST_WORDS = 60
MOST_NAMES = 4
LONGEST_NUMBER = 5
DIGITS = "0123456789"
# How many names follow each word with which a fact begins.
FACTS = {"from": 1, "has": 1, "first": 1, "last": 1, "pair": 2, "marked": 1}
DEEDS = ("mark", "unmark", "file", "pass")
WORD_FACTS = ("has", "first", "last", "pair")


class Rule:
    """A rule: its words, its condition and its deeds.

    A condition is a tuple that begins with its kind: ("any",), ("has", name) and the like,
    ("pair", name, name), ("over", number), ("not", condition), ("and", conditions),
    ("or", conditions). A deed is a pair of its kind and its name; `stop` has the name "".
    """

    def __init__(self, words, condition, deeds):
        self.words = words
        self.condition = condition
        self.deeds = deeds


class Reader:
    """Goes through the words of one row."""

    def __init__(self, words, row):
        self.words = words
        self.row = row
        self.at = 0

    def fail(self):
        """Refuses the row: no rule begins with the word that comes next."""
        raise BadRule(self.row, min(self.at, MOST_WORDS))

    def peek(self):
        """The word that comes next, or an empty one at the end."""
        if self.at < len(self.words):
            return self.words[self.at]
        return ""

    def take(self, word):
        """Goes past this very word."""
        if self.peek() != word:
            self.fail()
        self.at += 1

    def skip(self, word):
        """Goes past this word if it comes next, and tells whether it did."""
        if self.peek() != word:
            return False
        self.at += 1
        return True

    def take_name(self):
        """Goes past a name."""
        word = self.peek()
        if not is_name(word):
            self.fail()
        self.at += 1
        return word

    def take_number(self):
        """Goes past a number."""
        word = self.peek()
        if not is_number(word):
            self.fail()
        self.at += 1
        return int(word)

    def read_rule(self):
        """The whole row as a rule."""
        self.take("if")
        condition = self.read_condition()
        self.take("then")
        deeds = [self.read_deed()]
        while self.skip(","):
            deeds.append(self.read_deed())
        if self.at < len(self.words):
            self.fail()
        return Rule(self.words, condition, deeds)

    def read_condition(self):
        """Conditions parted by `or`, or just one."""
        parts = [self.read_joined()]
        while self.skip("or"):
            parts.append(self.read_joined())
        return parts[0] if len(parts) == 1 else ("or", parts)

    def read_joined(self):
        """Conditions parted by `and`, or just one."""
        parts = [self.read_single()]
        while self.skip("and"):
            parts.append(self.read_single())
        return parts[0] if len(parts) == 1 else ("and", parts)

    def read_single(self):
        """A fact, `any`, one in brackets, or `not` and one of these."""
        if self.skip("not"):
            return "not", self.read_single()
        if self.skip("("):
            inner = self.read_condition()
            self.take(")")
            return inner
        if self.skip("any"):
            return ("any",)
        if self.skip("over"):
            return "over", self.take_number()
        return self.read_fact()

    def read_fact(self):
        """A fact that speaks of names."""
        kind = self.peek()
        if kind not in FACTS:
            self.fail()
        self.at += 1
        named = [self.take_name() for _ in range(FACTS[kind])]
        return kind, *named

    def read_deed(self):
        """One deed."""
        if self.skip("stop"):
            return "stop", ""
        kind = self.peek()
        if kind not in DEEDS:
            self.fail()
        self.at += 1
        return kind, self.take_name()


def is_number(word):
    """Tells whether a word is a number in figures without a needless nought."""
    if not 1 <= len(word) <= LONGEST_NUMBER:
        return False
    if word[0] == "0" and len(word) > 1:
        return False
    return all(sign in DIGITS for sign in word)


def words_of(row):
    """The words of a row."""
    for sign in "(),":
        row = row.replace(sign, f" {sign} ")
    return [word for word in row.split(" ") if word]


def rule_of(words, row):
    """The rule that these words of a row make."""
    # No word behind the first one too many can change what is told.
    rule = Reader(words[:MOST_WORDS + 1], row).read_rule()
    if len(words) > MOST_WORDS:
        raise BadRule(row, MOST_WORDS)
    return rule


def read(text):
    """The rules of a text, or a refusal of it."""
    if not isinstance(text, str):
        raise BadText("a text of rules is a text")
    rules = []
    for number, row in enumerate(text.split("\n")):
        words = words_of(row)
        if words and not row.startswith("#"):
            rules.append(rule_of(words, number))
    check_names(rules)
    return rules


def check_names(rules):
    """Refuses rules that speak of too many names."""
    if len(word_names(rules)) > MOST_NAMES:
        raise TooMany("rules speak of up to 4 names")


def word_names(rules):
    """The names that the rules speak of as words, each once."""
    named = {}
    for fact in facts_of(rules):
        if fact[0] in WORD_FACTS:
            for name in fact[1:]:
                named[name] = True
    return list(named)


def facts_of(rules):
    """The facts that stand in the conditions of the rules, each once."""
    found = {}
    for rule in rules:
        add_facts(rule.condition, found)
    return list(found)


def add_facts(condition, found):
    """Adds the facts of a condition to those found."""
    kind = condition[0]
    if kind == "not":
        add_facts(condition[1], found)
    elif kind == "and" or kind == "or":
        for part in condition[1]:
            add_facts(part, found)
    elif kind != "any":
        found[condition] = True
