"""Leaves out of rules what they are alike without.

Each time a rule was left out, all others may have come to be needless. To try each of them anew would
take long. So for each rule that was needed a sign is kept: a letter that parts the rules from the ones
without it. While it still does so, the rule is needed.
"""

from sortpost.letter_space import LetterSpace
from sortpost.runs import whole_run
from sortpost.sorting import Way
from sortpost.without import first_counted


def idle(way, deeds):
    """Tells whether deeds do nothing at this place of a way, each on its own."""
    done = {"mark": way.marks, "file": way.folders, "pass": way.receivers}
    for kind, name in deeds:
        if kind == "stop" or (name in way.marks if kind == "unmark" else name not in done[kind]):
            return False
    return True


class Sign:
    """A letter for which it is told fast whether it parts the rules left from the ones without one."""

    def __init__(self, letter, rules, asking, left):
        self.letter = letter
        self.rows = rules
        # A condition that asks for no mark holds for the letter each time or never.
        way = Way(letter)
        self.known = {number: way.holds(rules[number].condition) for number in left if not asking[number]}
        # While rules are left out without which the others are alike, the same becomes of the letter.
        self.expected = self.way(left).outcome()
        self.busy = {}
        self.stands = True

    def way(self, numbers):
        """The way of the letter through the rules of these numbers; those that are not idle on it are busy."""
        self.busy = {}
        way = Way(self.letter)
        for number in numbers:
            if way.stopped:
                return way
            rule = self.rows[number]
            if self.known[number] if number in self.known else way.holds(rule.condition):
                if not idle(way, rule.deeds):
                    self.busy[number] = True
                way.act(number, rule.deeds)
        return way

    def look(self, left, number):
        """Sees whether the letter parts the rules left from the ones without this one.

        While none of the rules that are busy then is left out, this stays so.
        """
        way = self.way([beside for beside in left if beside != number])
        self.stands = way.outcome() != self.expected


class Thinning:
    """Rules, the numbers of those that are left, and the signs of those that were needed."""

    def __init__(self, rules):
        self.rows = rules
        self.left = list(range(len(rules)))
        self.space = LetterSpace(rules)
        self.history = whole_run(self.space, rules)
        self.asking = {number: step.asked for number, step in enumerate(self.history.steps)}
        self.signs = {}

    def left_rules(self):
        """The rules that are left in the end."""
        at = 0
        while at < len(self.left):
            if self.needed(at):
                at += 1
            else:
                self.leave_out(at)
                at = 0
        return [self.rows[number] for number in self.left]

    def needed(self, at):
        """Tells whether the rules left are not alike without the one at this place."""
        number = self.left[at]
        if number in self.signs and self.signs[number].stands:
            return True
        letter = first_counted(self.space, self.history, at)
        if letter is None:
            return False
        self.signs[number] = Sign(letter, self.rows, self.asking, self.left)
        self.signs[number].look(self.left, number)
        return True

    def leave_out(self, at):
        """Leaves out the rule at this place."""
        number = self.left[at]
        del self.left[at]
        self.signs.pop(number, None)
        self.history.leave_out(at)
        for beside, sign in self.signs.items():
            if number in sign.busy:
                sign.look(self.left, beside)
