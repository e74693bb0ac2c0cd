"""Lamps and the sets of lamps: strings of lowercase letters in ascending order."""

from relitgoals.errors import InvalidLamps, LampsDiffer

LETTERS = "abcdefghijklmnopqrstuvwxyz"
MOST_LAMPS = 4


def is_ascending(text):
    """Whether each character of a string comes behind the one before it, so that none stands there twice."""
    return all([text[at - 1] < text[at] for at in range(1, len(text))])


def is_within(one, other):
    """Whether a set is within another one."""
    return all([letter in other for letter in one])


def is_set(value, lamps):
    """Whether any value is a set of some lamps."""
    return isinstance(value, str) and is_ascending(value) and is_within(value, lamps)


def is_lamps(value):
    """Whether any value is lamps."""
    return is_set(value, LETTERS) and 1 <= len(value) <= MOST_LAMPS


def check_lamps(value):
    """Raises InvalidLamps unless a value is lamps."""
    if not is_lamps(value):
        raise InvalidLamps(value)


def check_same_lamps(one, other):
    """Raises LampsDiffer unless two strings of lamps are the same."""
    if one != other:
        raise LampsDiffer()


def listed_sets(lamps):
    """The list of the sets of some lamps, or of those within a set, smaller sets first."""
    sets = [""]
    for letter in lamps:
        sets = [*sets, *[kept + letter for kept in sets]]
    # Sets of the same length stay in ascending order.
    return sorted(sorted(sets), key=len)


def all_sets(lamps):
    """Yields the sets of some lamps, smaller sets first; raises InvalidLamps."""
    check_lamps(lamps)
    yield from listed_sets(lamps)


def union(*sets):
    """The set of all letters of any number of sets."""
    return "".join(sorted(set("".join(sets))))
