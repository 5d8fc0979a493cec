"""Names and letters: what is one, and in which order they are."""

SIGNS = "abcdefghijklmnopqrstuvwxyz"
LONGEST_NAME = 10
BIGGEST_SIZE = 99999


def is_name(thing):
    """Tells whether a thing is a name."""
    if not isinstance(thing, str) or not 1 <= len(thing) <= LONGEST_NAME:
        return False
    return all(sign in SIGNS for sign in thing)


def is_size(thing):
    """Tells whether a thing is the size of a letter."""
    if not isinstance(thing, int) or isinstance(thing, bool):
        return False
    return 0 <= thing <= BIGGEST_SIZE


def is_letter(thing):
    """Tells whether a thing is a letter."""
    if not isinstance(thing, tuple) or len(thing) != 3:
        return False
    sender, words, size = thing
    if not is_name(sender) or not isinstance(words, list) or not is_size(size):
        return False
    return all(is_name(word) for word in words)


def name_key(name):
    """What names are in order by."""
    return len(name), name


def in_order(names):
    """A new list of the names, in order."""
    return sorted(names, key=name_key)


def next_name(name):
    """The name that comes straight after this one."""
    kept = name.rstrip("z")
    turned = "a" * (len(name) - len(kept))
    if not kept:
        return "a" + turned
    return kept[:-1] + SIGNS[SIGNS.index(kept[-1]) + 1] + turned


def least_name_beside(taken):
    """The first name of all that is not among those taken."""
    name = "a"
    while name in taken:
        name = next_name(name)
    return name
