"""The errors with which the package refuses what is handed in."""


class SortError(ValueError):
    """Any refusal of this package."""


class BadRule(SortError):
    """A row of a text of rules that is no rule."""

    def __init__(self, row, word):
        super().__init__(f"row {row} is no rule, from word {word} on")
        self.row = row
        self.word = word


class BadText(SortError):
    """No text where one is asked for."""


class BadLetter(SortError):
    """No letter where one is asked for."""


class BadName(SortError):
    """No name, or not one that may stand here."""


class BadHouse(SortError):
    """No house where one is asked for."""


class TooMany(SortError):
    """More names or more people than there may be."""


class NoLetter(SortError):
    """No letter's number."""
