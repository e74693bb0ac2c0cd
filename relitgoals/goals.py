"""Sentences about sets of lamps, and goals, which say for which sets hand one wins."""

from relitgoals.errors import InvalidSentence, InvalidSet
from relitgoals.kinds import is_number
from relitgoals.lamps import check_lamps, check_same_lamps, is_set, listed_sets

MOST_PARTS = 20
MOST_COUNT = 4
MOST_LISTED = 16
FEWEST_JOINED = 2
MOST_JOINED = 4
JOINING_WORDS = ("and", "or")


def parts_of(sentence):
    """Yields the parts of a sentence, in order."""
    waiting = [sentence]
    while waiting:
        yield waiting[0]
        waiting = next_parts(waiting)


def next_parts(waiting):
    """The list of the parts that come behind the first one: the sentences in it, then those that waited already."""
    return [*inner_sentences(waiting[0]), *waiting[1:]]


def inner_sentences(part):
    """The tuple of the sentences that stand directly in a part."""
    return part[1:] if part[0] == "not" or part[0] in JOINING_WORDS else ()


def is_count(value):
    """Whether a value is a number of lamps that a sentence may ask for."""
    return is_number(value) and 1 <= value <= MOST_COUNT


def has_form(lamps, value):
    """Whether a value has the form of a part; the sentences in it are not looked at."""
    if not isinstance(value, tuple) or len(value) == 0:
        return False
    word, *rest = value
    if word == "lit":
        return len(rest) == 1 and is_set(rest[0], lamps) and len(rest[0]) == 1
    if word == "least":
        return len(rest) == 2 and is_count(rest[0]) and is_set(rest[1], lamps)
    if word == "sets":
        return len(rest) <= MOST_LISTED and all([is_set(item, lamps) for item in rest])
    if word == "not":
        return len(rest) == 1
    return word in JOINING_WORDS and FEWEST_JOINED <= len(rest) <= MOST_JOINED


def check_sentence(lamps, value):
    """Raises InvalidLamps, or InvalidSentence with the number of the first wrong part of a value."""
    check_lamps(lamps)
    # Not by parts_of: operators make goals, and an operator reaches no function with yield.
    waiting = [value]
    for number in range(MOST_PARTS):
        # Nothing inside a wrong part is looked at, as it need not be a sentence.
        if not has_form(lamps, waiting[0]):
            raise InvalidSentence(number)
        waiting = next_parts(waiting)
        if len(waiting) == 0:
            return
    raise InvalidSentence(MOST_PARTS)


def sentence_holds(sentence, kept):
    """Whether a sentence holds for a set."""
    word, *rest = sentence
    if word == "lit":
        return rest[0] in kept
    if word == "least":
        return len([letter for letter in rest[1] if letter in kept]) >= rest[0]
    if word == "sets":
        return kept in rest
    inner = [sentence_holds(part, kept) for part in rest]
    if word == "not":
        return not inner[0]
    return all(inner) if word == "and" else any(inner)


def sets_sentence(lamps, sets):
    """The sentence that lists some sets of some lamps without duplicates, smaller sets first."""
    listed = [kept for kept in listed_sets(lamps) if kept in sets]
    return ("sets", *listed)


class Goal:
    """A goal: some lamps and a sentence about sets of them."""

    def __init__(self, lamps, sentence):
        check_sentence(lamps, sentence)
        self.letters = lamps
        self.wording = sentence
        self.held = tuple([kept for kept in listed_sets(lamps) if sentence_holds(sentence, kept)])

    @staticmethod
    def of_sets(lamps, *sets):
        """The goal that holds for some sets; raises InvalidLamps, InvalidSet."""
        check_lamps(lamps)
        for value in sets:
            if not is_set(value, lamps):
                raise InvalidSet(value)
        return Goal(lamps, sets_sentence(lamps, sets))

    @property
    def lamps(self):
        """The lamps of the goal."""
        return self.letters

    @property
    def sentence(self):
        """The sentence of the goal."""
        return self.wording

    def sets(self):
        """The list of the sets for which the goal holds, smaller sets first."""
        return list(self.held)

    def holds_for(self, kept):
        """Whether the goal holds for a set; raises InvalidSet."""
        if not is_set(kept, self.letters):
            raise InvalidSet(kept)
        return kept in self.held

    def winning_hand(self, kept):
        """The hand that wins if these are the lamps that are lit without end; raises InvalidSet."""
        return 1 if self.holds_for(kept) else 2

    def __call__(self, kept):
        return self.holds_for(kept)

    def __contains__(self, kept):
        return self.holds_for(kept)

    def __and__(self, other):
        check_same_lamps(self.letters, other.letters)
        both = [kept for kept in self.held if kept in other.held]
        return Goal(self.letters, sets_sentence(self.letters, both))

    def __or__(self, other):
        check_same_lamps(self.letters, other.letters)
        either = [*self.held, *other.held]
        return Goal(self.letters, sets_sentence(self.letters, either))

    def __invert__(self):
        others = [kept for kept in listed_sets(self.letters) if kept not in self.held]
        return Goal(self.letters, sets_sentence(self.letters, others))

    def __eq__(self, other):
        return isinstance(other, Goal) and self.letters == other.letters and self.held == other.held

    def __len__(self):
        return len(self.held)

    def __repr__(self):
        return f"Goal({self.letters}, {len(self.held)} sets)"
