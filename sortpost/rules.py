"""Texts of rules, as they are written, and the names in them."""

from sortpost.letters import in_order
from sortpost.reading import read


def written(rules):
    """The text as it is written: a line feed behind each rule."""
    return written_rules(read(rules))


def names(rules):
    """All names after `file` and `pass`, each once, in order."""
    told = {}
    for rule in read(rules):
        for kind, name in rule.deeds:
            if kind == "file" or kind == "pass":
                told[name] = True
    return in_order(list(told))


def written_rules(rules):
    """Rules that were read, as a text."""
    return "".join([written_rule(rule) + "\n" for rule in rules])


def written_rule(rule):
    """One rule that was read, as a row."""
    row = " ".join(rule.words)
    return row.replace("( ", "(").replace(" )", ")").replace(" ,", ",")
