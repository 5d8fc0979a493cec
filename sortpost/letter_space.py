"""All letters, as far as texts of rules can tell them from each other.

A set of letters is a node of decision diagrams. The code of a letter is made of the number of its
sender among the senders that the rules speak of (and one whom they don't), the number of the span
in which its size is, and the numbers of its first and of its last word; its place is the one that
its words have.
"""

from sortpost.diagrams import NONE, Diagrams
from sortpost.letters import BIGGEST_SIZE, in_order, least_name_beside
from sortpost.reading import facts_of
from sortpost.word_search import WordSearch
from sortpost.word_space import WordSpace


def figures_for(many):
    """How many binary figures it takes to number so many things."""
    return (many - 1).bit_length()


class LetterSpace:
    """Sets of letters, as nodes, for rules that were read."""

    def __init__(self, rules):
        facts = facts_of(rules)
        self.facts = {}
        self.words = WordSpace(facts)
        self.search = WordSearch(self.words)
        named = [fact[1] for fact in facts if fact[0] == "from"]
        self.senders = in_order([*named, least_name_beside(named)])
        self.cuts = sorted([fact[1] for fact in facts if fact[0] == "over" and fact[1] < BIGGEST_SIZE])
        # The other words have the number 0; numbers that nothing has tell nothing else than those that something has.
        self.firsts = [self.words.other, *self.words.firsts]
        self.lasts = [self.words.other, *self.words.lasts]
        self.size_level = figures_for(len(self.senders))
        self.first_level = self.size_level + figures_for(len(self.cuts) + 1)
        self.last_level = self.first_level + figures_for(len(self.firsts))
        self.depth = self.last_level + figures_for(len(self.lasts))
        self.diagrams = Diagrams(self.depth, self.words.full)
        self.short_letters = NONE

    def letters_with(self, fact):
        """The set of all letters for which a fact holds."""
        if fact not in self.facts:
            self.facts[fact] = self.new_set(fact)
        return self.facts[fact]

    def new_set(self, fact):
        """The set of all letters for which a fact holds, built."""
        kind = fact[0]
        if kind == "has":
            return self.diagrams.leaf(self.words.places_with(fact[1]))
        if kind == "pair":
            return self.diagrams.leaf(self.words.places_with_pair(fact[1:]))
        if kind == "first":
            return self.numbered(self.first_level, self.last_level, self.firsts.index(fact[1]))
        if kind == "last":
            return self.numbered(self.last_level, self.depth, self.lasts.index(fact[1]))
        if kind == "from":
            return self.numbered(0, self.size_level, self.senders.index(fact[1]))
        return self.over(fact[1])

    def numbered(self, level, end, number):
        """The letters whose code has this number from a level up to an end."""
        return self.diagrams.span(level, end, number, number + 1)

    def over(self, size):
        """The letters whose size is more."""
        if size == BIGGEST_SIZE:
            return NONE
        number = self.cuts.index(size) + 1
        most = 1 << (self.first_level - self.size_level)
        return self.diagrams.span(self.size_level, self.first_level, number, most)

    def least(self, letters):
        """The first letter of a set, or None."""
        if letters == NONE:
            return None
        shadow = self.diagrams.shadow(letters, self.first_level, {})
        wanted = {}
        for first in self.firsts:
            for last in self.lasts:
                wanted[(first, last)] = self.diagrams.places_at(shadow, self.word_code(first, last))
        words = self.search.least(wanted)
        if words is None:
            return None
        sender, size = self.least_beside(letters, words)
        return sender, words, size

    def least_beside(self, letters, words):
        """The first sender and size with which these words are in a set."""
        code = self.word_code(self.words.first_of(words), self.words.last_of(words))
        code = self.diagrams.least_code(letters, self.first_level, code, self.words.place_of(words), {})
        code = code >> (self.depth - self.first_level)
        figures = self.first_level - self.size_level
        sender = self.senders[code >> figures]
        size = code & ((1 << figures) - 1)
        return sender, self.cuts[size - 1] + 1 if size else 0

    def word_code(self, first, last):
        """The part of the code that a first and a last word make."""
        return (self.firsts.index(first) << (self.depth - self.last_level)) | self.lasts.index(last)

    def short(self):
        """The letters of up to two words."""
        if self.short_letters == NONE:
            words = self.words.words
            pairs = [[one, other] for one in words for other in words]
            for some in [[]] + [[word] for word in words] + pairs:
                self.short_letters = self.diagrams.either(self.short_letters, self.letters_of(some))
        return self.short_letters

    def letters_of(self, words):
        """The letters that have these words or such that no fact tells from them."""
        first = self.firsts.index(self.words.first_of(words))
        last = self.lasts.index(self.words.last_of(words))
        ends = self.diagrams.both(self.numbered(self.first_level, self.last_level, first),
                                  self.numbered(self.last_level, self.depth, last))
        return self.diagrams.both(ends, self.diagrams.leaf(1 << self.words.place_of(words)))
