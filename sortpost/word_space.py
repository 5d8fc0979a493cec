"""All lists of words, as far as facts can tell them from each other.

What facts can tell of a list of words is its look: the first word, the last word, which names are
among the words and which pairs are. A look has a place: a number that tells which of the names
spoken of by `has` are among the words (the block), and which of the pairs spoken of are. In a
block there are places only for pairs of names that are there, so that each place of it is the place
of some list of words. A set of places is a number whose bit stands for each place.
"""

from sortpost.letters import in_order, least_name_beside


def spoken(facts, kind):
    """What facts of a kind speak of, in order."""
    return sorted([fact[1:] for fact in facts if fact[0] == kind])


def numbers_with_one(figures, at):
    """Of all numbers of so many binary figures, those that have a 1 at this one."""
    many = 1 << at
    row = ((1 << many) - 1) << many
    many = many * 2
    while many < 1 << figures:
        row = row | (row << many)
        many = many * 2
    return row


class Block:
    """The places of lists of words in which certain names are."""

    def __init__(self, offset, pairs):
        self.offset = offset
        self.pairs = {pair: at for at, pair in enumerate(pairs)}
        self.many = 1 << len(pairs)
        self.full = (1 << self.many) - 1
        self.ones = [numbers_with_one(len(pairs), at) for at in range(len(pairs))]

    def with_pair(self, places, pair):
        """Where these places come to if the pair is added to each of them."""
        if pair not in self.pairs:
            return places
        at = self.pairs[pair]
        there = places & self.ones[at]
        return there | ((places ^ there) << (1 << at))

    def ahead_of_pair(self, places, pair):
        """The places that come to these ones if the pair is added to them."""
        if pair not in self.pairs:
            return places
        at = self.pairs[pair]
        there = places & self.ones[at]
        return there | (there >> (1 << at))

    def places_in(self, other):
        """For each place of this block the one of the other block with the same pairs."""
        found = [0]
        for pair in self.pairs:
            bit = 1 << other.pairs[pair]
            found = found + [place | bit for place in found]
        return found


class WordSpace:
    """The looks of all lists of words."""

    def __init__(self, facts):
        self.held = [fact[0] for fact in spoken(facts, "has")]
        self.firsts = [fact[0] for fact in spoken(facts, "first")]
        self.lasts = [fact[0] for fact in spoken(facts, "last")]
        self.pairs = spoken(facts, "pair")
        named = self.held + self.firsts + self.lasts
        for pair in self.pairs:
            named.extend(pair)
        self.other = least_name_beside(named)
        self.words = in_order(list({name: True for name in [*named, self.other]}))
        self.blocks = []
        self.many = 0
        for block in range(1 << len(self.held)):
            self.add_block(block)
        self.full = (1 << self.many) - 1

    def add_block(self, number):
        """Adds the block in which these of the names held are."""
        missing = [name for at, name in enumerate(self.held) if not (number >> at) & 1]
        pairs = [pair for pair in self.pairs if pair[0] not in missing and pair[1] not in missing]
        block = Block(self.many, pairs)
        self.blocks.append(block)
        self.many += block.many

    def held_bit(self, name):
        """The bit of a name in the number of a block; 0 if none asks whether it is there."""
        return (1 << self.held.index(name)) if name in self.held else 0

    def places_with(self, name):
        """The places of all lists of words among which a name is."""
        bit = self.held_bit(name)
        found = 0
        for number, block in enumerate(self.blocks):
            if number & bit:
                found = found | (block.full << block.offset)
        return found

    def places_with_pair(self, pair):
        """The places of all lists of words among which a pair is."""
        found = 0
        for block in self.blocks:
            if pair in block.pairs:
                found = found | (block.ones[block.pairs[pair]] << block.offset)
        return found

    def place_of(self, words):
        """The place of a list of words."""
        number = 0
        for word in words:
            number = number | self.held_bit(word)
        block = self.blocks[number]
        place = 0
        for at in range(1, len(words)):
            pair = (words[at - 1], words[at])
            if pair in block.pairs:
                place = place | (1 << block.pairs[pair])
        return block.offset + place

    def told_first(self, word):
        """The word itself if some fact asks whether it is the first, else the other one."""
        return word if word in self.firsts else self.other

    def told_last(self, word):
        """The word itself if some fact asks whether it is the last, else the other one."""
        return word if word in self.lasts else self.other

    def first_of(self, words):
        """The first of the words as far as told."""
        return self.told_first(words[0]) if words else self.other

    def last_of(self, words):
        """The last of the words as far as told."""
        return self.told_last(words[-1]) if words else self.other
