"""What becomes of all letters at once by a text of rules."""

from sortpost.diagrams import ALL, NONE

# What is told of a letter in turn: the names it is filed under, the names it is passed on to.
TOLD = ("file", "pass")
FOLDERS = 0
RECEIVERS = 1


class Step:
    """A rule made ready for a letter space: what it asks for, and what it does in the end."""

    def __init__(self, space, rule):
        self.condition = ready(space, rule.condition)
        self.asked = list(asked_marks(self.condition, {}))
        self.marking = {}
        self.telling = ([], [])
        self.stops = False
        for kind, name in rule.deeds:
            if kind == "stop":
                self.stops = True
                break
            self.add_deed(kind, name)

    def add_deed(self, kind, name):
        """Adds a deed; of a mark only what the last deed does to it is seen by other rules."""
        if kind == "mark" or kind == "unmark":
            self.marking[name] = kind == "mark"
        elif name not in self.telling[TOLD.index(kind)]:
            self.telling[TOLD.index(kind)].append(name)


def ready(space, condition):
    """A condition in which each part that asks for no mark is ("set", letters)."""
    kind = condition[0]
    if kind == "any":
        return "set", ALL
    if kind == "marked":
        return condition
    if kind == "not":
        inner = ready(space, condition[1])
        return ("set", space.diagrams.less(ALL, inner[1])) if inner[0] == "set" else ("not", inner)
    if kind == "and" or kind == "or":
        return ready_parts(space.diagrams, kind, [ready(space, part) for part in condition[1]])
    return "set", space.letters_with(condition)


def ready_parts(diagrams, kind, parts):
    """Parts joined by `and` or by `or`, those that are sets made one."""
    whole = ALL if kind == "and" else NONE
    asking = []
    for part in parts:
        if part[0] != "set":
            asking.append(part)
        elif kind == "and":
            whole = diagrams.both(whole, part[1])
        else:
            whole = diagrams.either(whole, part[1])
    return (kind, [("set", whole), *asking]) if asking else ("set", whole)


def asked_marks(condition, found):
    """Adds the marks that a condition asks for to those found, and tells them."""
    kind = condition[0]
    if kind == "marked":
        found[condition[1]] = True
    elif kind == "not":
        asked_marks(condition[1], found)
    elif kind != "set":
        for part in condition[1]:
            asked_marks(part, found)
    return found


def holding(diagrams, condition, letters, marks):
    """Those of the letters for which a condition holds; marks has the letters of each mark."""
    kind = condition[0]
    if letters == NONE:
        return NONE
    if kind == "set":
        return diagrams.both(letters, condition[1])
    if kind == "marked":
        return diagrams.both(letters, marks.get(condition[1], NONE))
    if kind == "not":
        return diagrams.less(letters, holding(diagrams, condition[1], letters, marks))
    if kind == "and":
        for part in condition[1]:
            letters = holding(diagrams, part, letters, marks)
        return letters
    found = NONE
    for part in condition[1]:
        more = holding(diagrams, part, letters, marks)
        found = diagrams.either(found, more)
        letters = diagrams.less(letters, more)
    return found


class Moment:
    """What has become of all letters so far.

    Letters still come to the rules, have each mark, and were told each name. Moments are not changed,
    so they may share what they are made of.
    """

    def __init__(self, coming, marks, told):
        self.coming = coming
        self.marks = marks
        self.told = told

    def after(self, diagrams, step, acting):
        """The moment after a step that acts for these letters."""
        if acting == NONE:
            return self
        coming = diagrams.less(self.coming, acting) if step.stops else self.coming
        marks = self.marks
        for name, marked in step.marking.items():
            old = marks.get(name, NONE)
            new = diagrams.either(old, acting) if marked else diagrams.less(old, acting)
            marks = {**marks, name: new}
        told = [self.told_after(diagrams, kind, step, acting) for kind in range(len(TOLD))]
        return Moment(coming, marks, told)

    def told_after(self, diagrams, kind, step, acting):
        """What was told of letters after a step."""
        told = self.told[kind]
        if not step.telling[kind]:
            return told
        more = {name: diagrams.either(told.get(name, NONE), acting) for name in step.telling[kind]}
        return {**told, **more}


class History:
    """A run of all letters through steps: the moments ahead of each and at the end, and who acts."""

    def __init__(self, diagrams, steps):
        self.diagrams = diagrams
        self.steps = list(steps)
        self.moments = [Moment(ALL, {}, [{}, {}])]
        self.acting = []
        self.go_on()

    def go_on(self):
        """Goes through the steps that were not gone through yet."""
        start = len(self.acting)
        for number in range(start, len(self.steps)):
            step = self.steps[number]
            moment = self.moments[number]
            acting = holding(self.diagrams, step.condition, moment.coming, moment.marks)
            self.acting.append(acting)
            self.moments.append(moment.after(self.diagrams, step, acting))
        self.last_asked = {}
        for number, step in enumerate(self.steps):
            for name in step.asked:
                self.last_asked[name] = number

    def leave_out(self, number):
        """Becomes the run without a step."""
        del self.steps[number]
        del self.acting[number:]
        del self.moments[number + 1:]
        self.go_on()

    def told_in_all(self, kind):
        """For each name the letters that are told it in the end."""
        return self.moments[-1].told[kind]

    def events(self, kind, start=0):
        """For each name, from a step on, the places at which it is told, and the letters which it is told there."""
        found = {}
        for number in range(start, len(self.steps)):
            if self.acting[number] != NONE:
                old = self.moments[number].told[kind]
                new = self.moments[number + 1].told[kind]
                for at, name in enumerate(self.steps[number].telling[kind]):
                    letters = self.diagrams.less(new[name], old.get(name, NONE))
                    if letters != NONE:
                        found.setdefault(name, []).append(((number, at), letters))
        return found


def whole_run(space, rules):
    """The run of all letters through rules that were read."""
    return History(space.diagrams, [Step(space, rule) for rule in rules])


def all_of(diagrams, sets):
    """The letters in any of the sets of a dict."""
    found = NONE
    for letters in sets.values():
        found = diagrams.either(found, letters)
    return found


def parted(one, other):
    """The letters of which not the same has become by two runs."""
    diagrams = one.diagrams
    found = unlike_sets(diagrams, one.moments[-1].marks, other.moments[-1].marks)
    for kind in range(len(TOLD)):
        found = diagrams.either(found, unlike_sets(diagrams, one.told_in_all(kind), other.told_in_all(kind)))
        found = diagrams.either(found, unlike_turns(diagrams, one.events(kind), other.events(kind)))
    return found


def unlike_sets(diagrams, one, other):
    """The letters that are in the one set of a name but not in the other one, for any name."""
    found = NONE
    names = {**one, **other}
    for name in names:
        letters = diagrams.unlike(one.get(name, NONE), other.get(name, NONE))
        found = diagrams.either(found, letters)
    return found


def unlike_turns(diagrams, one, other):
    """The letters of which two names are told in other turns by the events of two runs."""
    found = NONE
    names = [name for name in one if name in other]
    # Names told at the same places for the same letters can't have changed turns with each other.
    moved = {name: True for name in names if one[name] != other[name]}
    for name in moved:
        for beside in names:
            if beside not in moved or beside < name:
                letters = turned(diagrams, (one[name], one[beside]), (other[name], other[beside]))
                found = diagrams.either(found, letters)
    return found


def turned(diagrams, ones, others):
    """The letters of which two names are told in other turns: ones and others are pairs of events of the two."""
    early, late = ones
    other_early, other_late = others
    found = ahead_and_behind(diagrams, early, late, other_late, other_early)
    return diagrams.either(found, ahead_and_behind(diagrams, late, early, other_early, other_late))


def ahead_and_behind(diagrams, early, late, other_early, other_late):
    """The letters that are in early events ahead of late ones, both times."""
    if early[0][0] > late[-1][0] or other_early[0][0] > other_late[-1][0]:
        return NONE
    letters = told_ahead(diagrams, early, late)
    if letters == NONE:
        return NONE
    return diagrams.both(letters, told_ahead(diagrams, other_early, other_late))


def told_ahead(diagrams, early, late):
    """The letters that are in an event of the early ones ahead of one of the late ones."""
    before = NONE
    found = NONE
    at = 0
    for place, letters in late:
        while at < len(early) and early[at][0] < place:
            before = diagrams.either(before, early[at][1])
            at += 1
        found = diagrams.either(found, diagrams.both(before, letters))
    return found
