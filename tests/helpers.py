"""What several tests need."""

from itertools import combinations

LAMPS = ("a", "ab", "xz", "abc", "bdy", "abcd", "amyz")

# Neither lamps nor a set of any lamps.
NO_STRINGS = (0, 1, -1, True, False, None, (), ("a",), ("a", "b"), [], ["a"], [["a"], None], (("a",), 1))
WRONG_STRINGS = ("ba", "aa", "aab", "abca", "A", "aB", "AB", "1", "a1", " ", "a ", " a", "-", "a,b", "\n", "a\n", "\u00e9")


def sets_of(lamps):
    """All sets of some lamps, smaller sets first, written down independently of the package."""
    return ["".join(letters) for size in range(len(lamps) + 1) for letters in combinations(lamps, size)]


def row_of_nots(many, inner):
    """A sentence inside so many nested "not"."""
    for _ in range(many):
        inner = ("not", inner)
    return inner
