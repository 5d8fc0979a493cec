"""What texts of rules do to all letters."""

from sortpost.diagrams import ALL, NONE
from sortpost.errors import BadName
from sortpost.letter_space import LetterSpace
from sortpost.letters import is_name
from sortpost.reading import check_names, read
from sortpost.rules import written_rules
from sortpost.runs import FOLDERS, RECEIVERS, all_of, parted, whole_run
from sortpost.thinning import Thinning
from sortpost.without import first_counted


def apart(one, other):
    """The first letter of which not the same becomes by the two texts, or None."""
    one = read(one)
    other = read(other)
    check_names(one + other)
    space = LetterSpace(one + other)
    return space.least(parted(whole_run(space, one), whole_run(space, other)))


def acts(rules):
    """For each rule the first letter for which it acts, or None."""
    rows = read(rules)
    space = LetterSpace(rows)
    run = whole_run(space, rows)
    return [space.least(letters) for letters in run.acting]


def counts(rules):
    """For each rule the first letter that parts the text and the one without it, or None."""
    rows = read(rules)
    space = LetterSpace(rows)
    run = whole_run(space, rows)
    return [first_counted(space, run, number) for number in range(len(rows))]


def thin(rules):
    """The text less, one by one, the first rule without which it is alike."""
    rows = read(rules)
    return written_rules(Thinning(rows).left_rules())


def unfiled(rules):
    """The first letter that is filed under no name, or None."""
    rows = read(rules)
    space = LetterSpace(rows)
    filed = all_of(space.diagrams, whole_run(space, rows).told_in_all(FOLDERS))
    return space.least(space.diagrams.less(ALL, filed))


def reaching(rules, name):
    """The first letter that is filed under a name or passed on to it, or None."""
    rows = read(rules)
    if not is_name(name):
        raise BadName("no name")
    space = LetterSpace(rows)
    run = whole_run(space, rows)
    filed = run.told_in_all(FOLDERS).get(name, NONE)
    return space.least(space.diagrams.either(filed, run.told_in_all(RECEIVERS).get(name, NONE)))
