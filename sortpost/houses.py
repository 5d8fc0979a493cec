"""Houses: people with rules, whose letters go from one to another."""

from sortpost.diagrams import ALL, NONE
from sortpost.errors import BadHouse, BadName, NoLetter, TooMany
from sortpost.letter_space import LetterSpace
from sortpost.letters import in_order, is_name
from sortpost.reading import check_names, read
from sortpost.runs import RECEIVERS, whole_run
from sortpost.sorting import check_letter, way_through

MOST_PEOPLE = 5


def ring(house, name):
    """The first letter that has a ring that begins with somebody, and its first ring; or None."""
    people = read_house(house)
    if not is_name(name) or name not in people:
        raise BadName("nobody in the house")
    space = LetterSpace(all_rules(people))
    ways = {person: receivers_of(space, people[person]) for person in people}
    letter = space.least(going_round(space.diagrams, ways, [name], ALL))
    if letter is None:
        return None
    return letter, first_ring(people, name, letter)


def is_house(thing):
    """Tells whether a thing is a dict of 1 to 5 names, each with a text."""
    if not isinstance(thing, dict) or not 1 <= len(thing) <= MOST_PEOPLE:
        return False
    return all(is_name(name) and isinstance(text, str) for name, text in thing.items())


def read_house(house):
    """The rules of all people of a house, by their names in order; or a refusal of it."""
    if not is_house(house):
        raise BadHouse("a house is a dict of 1 to 5 names, each with a text")
    people = {name: read(house[name]) for name in in_order(list(house))}
    check_names(all_rules(people))
    return people


def all_rules(people):
    """The rules of all people, as one list."""
    found = []
    for rules in people.values():
        found.extend(rules)
    return found


def receivers_of(space, rules):
    """For each name the letters that are passed on to it by the rules."""
    return whole_run(space, rules).told_in_all(RECEIVERS)


def going_round(diagrams, ways, path, letters):
    """Those of the letters that go on from the end of a path, past people not on it, to its begin."""
    found = NONE
    for person, gone in ways[path[-1]].items():
        if person == path[0]:
            found = diagrams.either(found, diagrams.both(letters, gone))
        elif person in ways and person not in path:
            more = diagrams.both(letters, gone)
            if more != NONE:
                found = diagrams.either(found, going_round(diagrams, ways, [*path, person], more))
    return found


def first_ring(people, name, letter):
    """The first of the rings with the fewest people that a letter has from somebody on."""
    nexts = {}
    for person, rules in people.items():
        receivers = way_through(rules, letter).receivers
        nexts[person] = [other for other in people if other in receivers]
    paths = [[name]]
    # People are in order here and paths are gone through in order, so the first one that closes is the first one.
    while True:
        for path in paths:
            if name in nexts[path[-1]]:
                return [*path, name]
        paths = [[*path, other] for path in paths for other in nexts[path[-1]] if other not in path]


class House:
    """People, each with a text of rules, and the letters that were delivered to them."""

    def __init__(self, house):
        self.people = read_house(house)
        self.texts = {name: house[name] for name in house}
        self.ways = []
        self.filings = {}
        self.sent = {}

    def deliver(self, name, letter):
        """Brings a letter to somebody and tells its number."""
        self.check_person(name)
        check_letter(letter)
        number = len(self.ways)
        reached = [name]
        at = 0
        while at < len(reached):
            receivers = self.sort_at(reached[at], letter, number)
            for receiver in receivers:
                if receiver not in reached:
                    reached.append(receiver)
            at += 1
        self.ways.append(reached)
        return number

    def sort_at(self, name, letter, number):
        """Sorts a letter by somebody's rules, and tells to whom in the house it is passed on."""
        way = way_through(self.people[name], letter)
        for folder in way.folders:
            self.filings.setdefault((name, folder), []).append(number)
        for receiver in way.receivers:
            if receiver not in self.people:
                self.sent.setdefault(receiver, {})[number] = True
        return [receiver for receiver in way.receivers if receiver in self.people]

    def way(self, number):
        """Those to whom a letter came, in turn."""
        if not isinstance(number, int) or isinstance(number, bool) or not 0 <= number < len(self.ways):
            raise NoLetter("no letter has this number")
        return list(self.ways[number])

    def filed(self, name, folder):
        """The numbers of the letters that somebody's rules filed under a name."""
        self.check_person(name)
        if not is_name(folder):
            raise BadName("letters are filed under names")
        return list(self.filings.get((name, folder), []))

    def outside(self, name):
        """The numbers of the letters passed on to a name that is nobody's in the house."""
        if not is_name(name) or name in self.people:
            raise BadName("no name, or somebody's in the house")
        return list(self.sent.get(name, {}))

    def teach(self, name, rules):
        """Gives somebody other rules, or brings somebody into the house."""
        if not is_name(name):
            raise BadName("people have names")
        people = dict(self.people)
        people[name] = read(rules)
        check_names(all_rules(people))
        if len(people) > MOST_PEOPLE:
            raise TooMany("up to 5 people live in a house")
        self.people = people
        self.texts[name] = rules

    def rules(self, name):
        """Somebody's text of rules, as handed in."""
        self.check_person(name)
        return self.texts[name]

    def twin(self):
        """A house of its own that stands as this one."""
        other = House(self.texts)
        other.ways = [list(way) for way in self.ways]
        other.filings = {key: list(numbers) for key, numbers in self.filings.items()}
        other.sent = {name: dict(numbers) for name, numbers in self.sent.items()}
        return other

    def check_person(self, name):
        """Refuses what is nobody's name in the house."""
        if not is_name(name) or name not in self.people:
            raise BadName("nobody in the house")
