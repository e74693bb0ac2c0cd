"""What kinds of values there are among those that may be anything. Booleans are not numbers."""

from relitgoals.errors import InvalidHand

HANDS = (1, 2)
MOST_BORNE = 99


def is_number(value):
    """Whether any value is an integer, and no boolean."""
    return isinstance(value, int) and not isinstance(value, bool)


def is_index(value, many):
    """Whether any value is an index of one of so many things."""
    return is_number(value) and 0 <= value < many


def is_borne(value):
    """Whether any value is a number that an arrow or a step may bear, where the greatest number decides."""
    return is_index(value, MOST_BORNE + 1)


def is_row(value, many):
    """Whether any value is a list or a tuple with so many items."""
    return isinstance(value, (list, tuple)) and len(value) == many


def is_hand(value):
    """Whether any value is a hand."""
    return is_number(value) and value in HANDS


def check_hand(value):
    """Raises InvalidHand unless a value is a hand."""
    if not is_hand(value):
        raise InvalidHand(value)
