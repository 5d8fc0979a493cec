"""Sets of points as decision diagrams.

A point is a code, some binary figures, and a place. A node asks for one figure of the code and leads
to another node for 0 and for 1. A leaf, at the end, is the set of the places that belong to the set:
a number whose bit stands for each place. Nodes that are alike are the same node, so two sets are
alike if they have the same node's number.
"""

NONE = 0
ALL = 1


class Diagrams:
    """All nodes, by their numbers, and what is done with the sets that they are."""

    def __init__(self, depth, full):
        self.depth = depth
        self.levels = []
        self.lows = []
        self.highs = []
        self.places = []
        self.known_nodes = {}
        self.known_leaves = {}
        self.both_memo = {}
        self.either_memo = {}
        self.less_memo = {}
        self.kept_memos = []
        self.leaf(0)
        self.leaf(full)

    def leaf(self, places):
        """The number of the leaf with these places."""
        if places not in self.known_leaves:
            self.known_leaves[places] = self.add_node(self.depth, NONE, NONE, places)
        return self.known_leaves[places]

    def node(self, level, low, high):
        """The number of the node that asks for the figure at a level."""
        if low == high:
            return low
        key = (level, low, high)
        if key not in self.known_nodes:
            self.known_nodes[key] = self.add_node(level, low, high, 0)
        return self.known_nodes[key]

    def add_node(self, level, low, high, places):
        """Adds a node and tells its number."""
        self.levels.append(level)
        self.lows.append(low)
        self.highs.append(high)
        self.places.append(places)
        return len(self.levels) - 1

    def begin(self):
        """From here on new nodes are for a while; told is what `forget` takes."""
        self.kept_memos.append((self.both_memo, self.either_memo, self.less_memo))
        self.both_memo = {}
        self.either_memo = {}
        self.less_memo = {}
        return len(self.levels)

    def forget(self, many):
        """Drops all nodes but the first ones, so that long work does not fill the memory."""
        for at in range(many, len(self.levels)):
            if self.levels[at] == self.depth:
                del self.known_leaves[self.places[at]]
            else:
                del self.known_nodes[(self.levels[at], self.lows[at], self.highs[at])]
        del self.levels[many:]
        del self.lows[many:]
        del self.highs[many:]
        del self.places[many:]
        self.both_memo, self.either_memo, self.less_memo = self.kept_memos.pop()

    def span(self, level, end, low, high, base=0):
        """The points for which the figures from a level up to an end are a number from low up to high."""
        width = 1 << (end - level)
        if low <= base and base + width <= high:
            return ALL
        if base >= high or base + width <= low:
            return NONE
        below = self.span(level + 1, end, low, high, base)
        above = self.span(level + 1, end, low, high, base + (width >> 1))
        return self.node(level, below, above)

    def halves(self, one, other):
        """The least level of two nodes, and what both lead to from there for 0, then for 1."""
        one_level = self.levels[one]
        other_level = self.levels[other]
        if one_level < other_level:
            return one_level, self.lows[one], other, self.highs[one], other
        if one_level > other_level:
            return other_level, one, self.lows[other], one, self.highs[other]
        return one_level, self.lows[one], self.lows[other], self.highs[one], self.highs[other]

    def both(self, one, other):
        """What is in both sets."""
        if one == other or other == ALL:
            return one
        if one == ALL:
            return other
        if one == NONE or other == NONE:
            return NONE
        key = (one, other) if one < other else (other, one)
        found = self.both_memo.get(key)
        if found is None:
            level, one_low, other_low, one_high, other_high = self.halves(one, other)
            if level < self.depth:
                found = self.node(level, self.both(one_low, other_low), self.both(one_high, other_high))
            else:
                found = self.leaf(self.places[one] & self.places[other])
            self.both_memo[key] = found
        return found

    def either(self, one, other):
        """What is in one of the sets or in both."""
        if one == other or other == NONE:
            return one
        if one == NONE:
            return other
        if one == ALL or other == ALL:
            return ALL
        key = (one, other) if one < other else (other, one)
        found = self.either_memo.get(key)
        if found is None:
            level, one_low, other_low, one_high, other_high = self.halves(one, other)
            if level < self.depth:
                found = self.node(level, self.either(one_low, other_low), self.either(one_high, other_high))
            else:
                found = self.leaf(self.places[one] | self.places[other])
            self.either_memo[key] = found
        return found

    def less(self, one, other):
        """What is in the one set but not in the other."""
        if one == other or one == NONE or other == ALL:
            return NONE
        if other == NONE:
            return one
        key = (one, other)
        found = self.less_memo.get(key)
        if found is None:
            level, one_low, other_low, one_high, other_high = self.halves(one, other)
            if level < self.depth:
                found = self.node(level, self.less(one_low, other_low), self.less(one_high, other_high))
            else:
                found = self.leaf(self.places[one] & ~self.places[other])
            self.less_memo[key] = found
        return found

    def unlike(self, one, other):
        """What is in just one of the sets."""
        return self.either(self.less(one, other), self.less(other, one))

    def shadow(self, node, level, known):
        """The points of a set with the figures ahead of a level made any ones."""
        if self.levels[node] >= level:
            return node
        if node not in known:
            low = self.shadow(self.lows[node], level, known)
            known[node] = self.either(low, self.shadow(self.highs[node], level, known))
        return known[node]

    def places_at(self, node, code):
        """The places that a set has for a code."""
        level = self.levels[node]
        while level < self.depth:
            if (code >> (self.depth - 1 - level)) & 1:
                node = self.highs[node]
            else:
                node = self.lows[node]
            level = self.levels[node]
        return self.places[node]

    def least_code(self, node, level, code, place, dead):
        """The least figures ahead of a level with which a code and a place belong to a set, or None."""
        here = self.levels[node]
        if here >= level:
            return 0 if (self.places_at(node, code) >> place) & 1 else None
        if node in dead:
            return None
        found = self.least_code(self.lows[node], level, code, place, dead)
        if found is None:
            found = self.least_code(self.highs[node], level, code, place, dead)
            if found is not None:
                found += 1 << (self.depth - 1 - here)
        if found is None:
            dead[node] = True
        return found
