"""What becomes of all letters by a text of rules without one of them.

This run is told by how it differs from the run by the whole text. Letters that come to a rule in both
runs with the same marks, as far as rules from there on ask for them, go on alike. There are most often
few others, so that this takes far less time than a run of its own.
"""

from sortpost.diagrams import NONE
from sortpost.runs import TOLD, holding, turned


def first_counted(space, history, number):
    """The first letter of which something else becomes without a step, or None."""
    acting = history.acting[number]
    if acting == NONE:
        return None
    # The first letter has few words most often, and among few letters it is found fast.
    letter = first_parted(space, history, number, space.diagrams.both(acting, space.short()))
    return first_parted(space, history, number, acting) if letter is None else letter


def first_parted(space, history, number, letters):
    """The first of the letters of which something else becomes without a step, or None."""
    many = space.diagrams.begin()
    letter = space.least(Without(history, number, letters).parted())
    space.diagrams.forget(many)
    return letter


class Without:
    """The run in which one step does not act for some letters, beside the run in which all steps act."""

    def __init__(self, history, number, letters):
        self.diagrams = history.diagrams
        self.history = history
        self.number = number
        self.coming = NONE
        self.marks = {}
        self.told = [{} for _ in TOLD]
        # The events that only the run with all steps has, and those that only this one has.
        self.lost = [{} for _ in TOLD]
        self.won = [{} for _ in TOLD]
        self.do(number, (history.acting[number], letters, NONE))
        for later in range(number + 1, len(history.steps)):
            self.do(later, self.who_acts(later))

    def who_acts(self, number):
        """A triple: the letters for which a step acts in the other run, those only there, those only here."""
        acting = self.history.acting[number]
        unsure = self.unsure(number)
        if unsure == NONE:
            return acting, NONE, NONE
        step = self.history.steps[number]
        moment = self.history.moments[number]
        coming = self.here(unsure, moment.coming, self.coming)
        marks = {name: self.here(coming, moment.marks.get(name, NONE), self.marks.get(name, NONE))
                 for name in step.asked}
        here = holding(self.diagrams, step.condition, coming, marks)
        there = self.diagrams.both(unsure, acting)
        return acting, self.diagrams.less(there, here), self.diagrams.less(here, there)

    def unsure(self, number):
        """The letters for which steps from a number on may act in one run only."""
        found = self.coming
        for name, letters in self.marks.items():
            if self.history.last_asked.get(name, -1) >= number:
                found = self.diagrams.either(found, letters)
        return found

    def here(self, letters, there, unlike):
        """Those of the letters that are in a set in this run, by the set in the other run and how they differ."""
        return self.diagrams.unlike(self.diagrams.both(letters, there), self.diagrams.both(letters, unlike))

    def do(self, number, who):
        """Does what a step does; who is a triple as `who_acts` tells it."""
        step = self.history.steps[number]
        moment = self.history.moments[number]
        if step.stops:
            self.coming = self.changed(moment.coming, self.coming, who, False)
        for name, marked in step.marking.items():
            unlike = self.marks.get(name, NONE)
            self.marks[name] = self.changed(moment.marks.get(name, NONE), unlike, who, marked)
        for kind in range(len(TOLD)):
            for at, name in enumerate(step.telling[kind]):
                self.tell(kind, name, (number, at), who)

    def changed(self, there, unlike, who, joining):
        """How a set differs after the letters for which a step acts have joined it or left it."""
        acting, theirs, ours = who
        if acting == NONE and ours == NONE:
            return unlike
        diagrams = self.diagrams
        still = diagrams.less(diagrams.less(unlike, acting), ours)
        kept_there = diagrams.both(ours, there)
        kept_here = self.here(theirs, there, unlike)
        if joining:
            kept_there = diagrams.less(ours, kept_there)
            kept_here = diagrams.less(theirs, kept_here)
        return diagrams.either(still, diagrams.either(kept_there, kept_here))

    def tell(self, kind, name, place, who):
        """Tells a name of letters at a place, and keeps who are told it there in one run only."""
        acting, theirs, ours = who
        diagrams = self.diagrams
        unlike = self.told[kind].get(name, NONE)
        there = self.history.moments[place[0]].told[kind].get(name, NONE)
        late = diagrams.less(diagrams.both(acting, unlike), theirs)
        lost = diagrams.less(diagrams.either(theirs, late), there)
        won = diagrams.less(ours, self.here(ours, there, unlike))
        won = diagrams.either(won, diagrams.both(late, there))
        self.told[kind][name] = self.changed(there, unlike, who, True)
        self.keep(self.lost[kind], name, place, lost)
        self.keep(self.won[kind], name, place, won)

    def keep(self, events, name, place, letters):
        """Adds an event if it has letters."""
        if letters != NONE:
            events.setdefault(name, []).append((place, letters))

    def parted(self):
        """The letters of which not the same becomes in both runs."""
        found = NONE
        for sets in [self.marks, *self.told]:
            for letters in sets.values():
                found = self.diagrams.either(found, letters)
        for kind in range(len(TOLD)):
            found = self.diagrams.either(found, self.turned_here(kind))
        return found

    def turned_here(self, kind):
        """The letters of which names are told in other turns."""
        found = NONE
        moved = [name for name in self.lost[kind] if name in self.won[kind]]
        if not moved:
            return NONE
        events = self.history.events(kind, self.number)
        here = {name: self.events_here(kind, name, events[name]) for name in events}
        for name in moved:
            for beside in events:
                if beside != name:
                    pair = (self.lost[kind][name], events[beside])
                    letters = turned(self.diagrams, pair, (self.won[kind][name], here[beside]))
                    found = self.diagrams.either(found, letters)
        return found

    def events_here(self, kind, name, events):
        """The events of a name in this run, made from those of the run with all steps."""
        if name not in self.lost[kind] and name not in self.won[kind]:
            return events
        lost = {place: letters for place, letters in self.lost[kind].get(name, [])}
        found = [(place, self.diagrams.less(letters, lost.get(place, NONE))) for place, letters in events]
        return sorted(found + self.won[kind].get(name, []))
