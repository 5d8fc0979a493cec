"""Finds the first list of words that has one of certain looks.

Lists of words are built from their ends, one word ahead of the others each time. A layer has all
looks that so many words can have and that no fewer words have. The first list of words of a look
runs through the layers down, since each of its ends has a look that no fewer words have. There are
finitely many looks, so the search goes on till all of them are found, however many words that takes.
"""


def bits_of(number):
    """Which bits of a number are 1, rising."""
    found = []
    while number:
        low = number & -number
        found.append(low.bit_length() - 1)
        number = number ^ low
    return found


class WordSearch:
    """The layers of a word space, as far as they were needed.

    A layer is a dict: for a first word, a last word as far as told and the number of a block, the
    places in that block.
    """

    def __init__(self, space):
        self.space = space
        self.bits = {word: space.held_bit(word) for word in space.words}
        self.tables = {}
        self.seen = {}
        self.layers = []
        self.add_layer({(word, space.told_last(word), self.bits[word]): 1 for word in space.words})

    def add_layer(self, made):
        """Adds the layer of those looks among these that are new."""
        layer = {}
        for key, places in made.items():
            old = self.seen.get(key, 0)
            if places & ~old:
                layer[key] = places & ~old
                self.seen[key] = places | old
        self.layers.append(layer)

    def grow(self):
        """Adds the layer of the looks that one word more makes."""
        made = {}
        for (first, last, block), places in self.layers[-1].items():
            for word in self.space.words:
                after = block | self.bits[word]
                moved = places if after == block else self.moved(places, block, after)
                moved = self.space.blocks[after].with_pair(moved, (word, first))
                key = (word, last, after)
                made[key] = made.get(key, 0) | moved
        self.add_layer(made)

    def table(self, block, after):
        """For each place of a block the one with the same pairs in another block."""
        key = (block, after)
        if key not in self.tables:
            self.tables[key] = self.space.blocks[block].places_in(self.space.blocks[after])
        return self.tables[key]

    def moved(self, places, block, after):
        """Places of a block as places of another block."""
        table = self.table(block, after)
        found = 0
        for at in bits_of(places):
            found = found | (1 << table[at])
        return found

    def moved_from(self, places, goal, block, after):
        """Those places of a block that in another block are among the goal."""
        table = self.table(block, after)
        found = 0
        for at in bits_of(places):
            if (goal >> table[at]) & 1:
                found = found | (1 << at)
        return found

    def least(self, wanted):
        """The first list of words with a look that is wanted, or None.

        Wanted is a dict: for a first and a last word, as far as told, all places.
        """
        parts = self.by_blocks(wanted)
        if not parts:
            return None
        # No words look like one word that no fact speaks of.
        if parts.get((self.space.other, self.space.other, 0), 0) & 1:
            return []
        many = 0
        found = self.found_in(many, parts)
        while not found:
            many += 1
            if many == len(self.layers):
                self.grow()
            found = self.found_in(many, parts)
        return self.words_of(found, many)

    def by_blocks(self, wanted):
        """What is wanted, block by block, as far as there are such lists of words."""
        found = {}
        for (first, last), places in wanted.items():
            if places:
                need = self.bits[first] | self.bits[last]
                for number, block in enumerate(self.space.blocks):
                    part = (places >> block.offset) & block.full
                    if part and (number & need) == need:
                        found[(first, last, number)] = part
        return found

    def found_in(self, many, wanted):
        """What is wanted of a layer."""
        found = {}
        for (first, last, block), places in self.layers[many].items():
            part = places & wanted.get((self.space.told_first(first), last, block), 0)
            if part:
                found[(first, last, block)] = part
        return found

    def words_of(self, found, many):
        """The first list of words among those with the looks found in a layer."""
        words = []
        while True:
            starts = [first for first, last, block in found]
            word = [name for name in self.space.words if name in starts][0]
            words.append(word)
            if many == 0:
                return words
            many -= 1
            found = self.behind(word, found, many)

    def behind(self, word, found, many):
        """The looks in a layer that come to those found by this word ahead of theirs."""
        came = {}
        for (first, last, block), places in self.layers[many].items():
            after = block | self.bits[word]
            goal = found.get((word, last, after), 0)
            if goal:
                goal = self.space.blocks[after].ahead_of_pair(goal, (word, first))
                part = places & goal if after == block else self.moved_from(places, goal, block, after)
                if part:
                    came[(first, last, block)] = part
        return came
