"""Plain ways to tell what the program tells, which the tests hold it against.

Nothing here uses the program. Conditions are read by Python itself: `not`, `and`, `or` and brackets
mean the same there.
"""

import itertools

SIGNS = "abcdefghijklmnopqrstuvwxyz"
ONE_NAME = ("from", "has", "first", "last", "marked")


def name_key(name):
    return len(name), name


def least_beside(taken):
    for length in range(1, 4):
        for signs in itertools.product(SIGNS, repeat=length):
            if "".join(signs) not in taken:
                return "".join(signs)


class PlainRule:
    def __init__(self, row):
        for sign in "(),":
            row = row.replace(sign, " " + sign + " ")
        self.tokens = row.split()
        self.facts = []
        self.deeds = []
        code = self.condition_code()
        self.condition = eval("lambda letter, marks: " + code, {"holds": holds})

    def condition_code(self):
        code = []
        at = 1
        while self.tokens[at] != "then":
            word = self.tokens[at]
            many = 1 if word in ONE_NAME or word == "over" else 2 if word == "pair" else 0
            if many:
                fact = tuple(self.tokens[at:at + 1 + many])
                self.facts.append(fact)
                code.append(f"holds({fact!r}, letter, marks)")
            else:
                code.append("True" if word == "any" else word)
            at += 1 + many
        deeds = " ".join(self.tokens[at + 1:]).split(" , ")
        self.deeds = [tuple(deed.split()) for deed in deeds]
        return " ".join(code)


def holds(fact, letter, marks):
    sender, words, size = letter
    kind = fact[0]
    if kind == "from":
        return sender == fact[1]
    if kind == "over":
        return size > int(fact[1])
    if kind == "marked":
        return fact[1] in marks
    if kind == "has":
        return fact[1] in words
    if kind == "first":
        return bool(words) and words[0] == fact[1]
    if kind == "last":
        return bool(words) and words[-1] == fact[1]
    return (fact[1], fact[2]) in list(zip(words, words[1:]))


def plain_rules(text):
    return [PlainRule(row) for row in text.split("\n") if row.strip() and not row.startswith("#")]


def plain_run(rules, letter):
    """What becomes of a letter, and the numbers of the rules that act."""
    filed, marks, passed, acting = [], set(), [], []
    for number, rule in enumerate(rules):
        if not rule.condition(letter, marks):
            continue
        acting.append(number)
        for deed in rule.deeds:
            if deed[0] == "stop":
                return (filed, sorted(marks, key=name_key), passed), acting
            if deed[0] == "mark":
                marks.add(deed[1])
            elif deed[0] == "unmark":
                marks.discard(deed[1])
            else:
                row = filed if deed[0] == "file" else passed
                if deed[1] not in row:
                    row.append(deed[1])
    return (filed, sorted(marks, key=name_key), passed), acting


def outcome(rules, letter):
    return plain_run(rules, letter)[0]


def told(rules):
    """The names of words and of senders (one of each that no rule speaks of, too) and the sizes that rules part."""
    facts = [fact for rule in rules for fact in rule.facts]
    words = {name for fact in facts if fact[0] in ("has", "first", "last", "pair") for name in fact[1:]}
    senders = {fact[1] for fact in facts if fact[0] == "from"}
    words.add(least_beside(words))
    senders.add(least_beside(senders))
    sizes = {0} | {int(fact[1]) + 1 for fact in facts if fact[0] == "over" and fact[1] != "99999"}
    return sorted(words, key=name_key), sorted(senders, key=name_key), sorted(sizes)


def short_letters(rules, most):
    """All letters of up to so many words, in order, but for those that nothing tells from an earlier one."""
    words, senders, sizes = told(rules)
    for many in range(most + 1):
        for some in itertools.product(words, repeat=many):
            for sender in senders:
                for size in sizes:
                    yield sender, list(some), size


def unlike_letters(rules):
    """All letters there are, in order, but for those that nothing tells from an earlier one.

    Two lists of words with the same first and last word and the same words and pairs of those that facts
    speak of are told from each other by no fact, and neither are they with the same words behind both.
    """
    words, senders, sizes = told(rules)
    known = {name for rule in rules for fact in rule.facts for name in fact[1:]}
    seen = set()
    layer = [()]
    while layer:
        for some in layer:
            for sender in senders:
                for size in sizes:
                    yield sender, list(some), size
        longer = []
        for some in layer:
            for word in words:
                row = (*some, word)
                pairs = frozenset(pair for pair in zip(row, row[1:]) if known.issuperset(pair))
                look = (row[0], row[-1], frozenset(known.intersection(row)), pairs)
                if look not in seen:
                    seen.add(look)
                    longer.append(row)
        layer = longer


def first(letters, test):
    return next((letter for letter in letters if test(letter)), None)


def without(rules, number):
    return rules[:number] + rules[number + 1:]


def plain_thin(rules, letters):
    """The numbers of the rules that are left."""
    letters = list(letters)
    left = list(range(len(rules)))
    while True:
        for at in range(len(left)):
            less = left[:at] + left[at + 1:]
            ones, others = [rules[n] for n in left], [rules[n] for n in less]
            if all(outcome(ones, letter) == outcome(others, letter) for letter in letters):
                left = less
                break
        else:
            return left


def plain_ring(people, name, letter):
    """The first ring of a letter that begins with somebody, or None."""
    gone = {person: outcome(rules, letter)[2] for person, rules in people.items()}
    for many in range(len(people)):
        for middle in itertools.product(sorted(people, key=name_key), repeat=many):
            path = [name, *middle, name]
            if all(other in gone[one] for one, other in zip(path, path[1:])):
                return path
    return None
