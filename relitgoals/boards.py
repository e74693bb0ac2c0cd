"""Boards: places with owners, and arrows between the places, which light lamps."""

from relitgoals.errors import DeadEnd, InvalidArrow, InvalidOwner, InvalidPlace, TooMany
from relitgoals.kinds import check_hand, is_hand, is_index
from relitgoals.lamps import check_lamps, check_same_lamps, is_set


def check_hands(owners, most):
    """Raises InvalidOwner with the index of the first wrong owner, or of one behind so many; None is no limit."""
    for index, owner in enumerate(owners):
        if index == most or not is_hand(owner):
            raise InvalidOwner(index)


def check_owners(owners):
    """Raises InvalidOwner with the index of the first wrong owner of a board, or with 0 if there is none."""
    if len(owners) == 0:
        raise InvalidOwner(0)
    check_hands(owners, Board.PLACES)


def is_between(value, places):
    """Whether any value is a triple that begins with two of so many places."""
    return isinstance(value, tuple) and len(value) == 3 and is_index(value[0], places) and is_index(value[1], places)


def is_arrow(value, lamps, places):
    """Whether any value is an arrow of a board with some lamps and so many places."""
    return is_between(value, places) and is_set(value[2], lamps)


def check_arrows(arrows, lamps, places):
    """Raises InvalidArrow with the index of the first wrong arrow."""
    for index, arrow in enumerate(arrows):
        if index == Board.ARROWS or not is_arrow(arrow, lamps, places):
            raise InvalidArrow(index)


def check_exits(exits):
    """Raises DeadEnd with the first place whose row of arrows is empty."""
    for place, numbers in enumerate(exits):
        if len(numbers) == 0:
            raise DeadEnd(place)


def numbers_from(place, arrows):
    """The tuple of the numbers of the arrows that leave a place."""
    return tuple([number for number, arrow in enumerate(arrows) if arrow[0] == place])


class Board:
    """A board."""

    PLACES = 12
    ARROWS = 80

    def __init__(self, lamps, owners, arrows):
        check_lamps(lamps)
        check_owners(owners)
        check_arrows(arrows, lamps, len(owners))
        exits = [numbers_from(place, arrows) for place in range(len(owners))]
        check_exits(exits)
        self.letters = lamps
        self.hands = tuple(owners)
        self.edges = tuple(arrows)
        self.exits = tuple(exits)

    @property
    def lamps(self):
        """The lamps of the board."""
        return self.letters

    @property
    def places(self):
        """The number of places."""
        return len(self.hands)

    def owners(self):
        """The list of the owners of the places."""
        return list(self.hands)

    def arrows(self):
        """The list of the arrows."""
        return list(self.edges)

    def leaving(self, place):
        """The ascending list of the numbers of the arrows that leave a place; raises InvalidPlace."""
        self.check_place(place)
        return list(self.exits[place])

    def check_place(self, value):
        """Raises InvalidPlace unless a value is a place of the board."""
        if not is_index(value, len(self.hands)):
            raise InvalidPlace(value)

    def owner_of(self, place):
        """The owner of a place."""
        return self.hands[place]

    def arrow_at(self, number):
        """The arrow with a number."""
        return self.edges[number]

    def leaves(self, value, place):
        """Whether any value is the number of an arrow that leaves a place."""
        return is_index(value, len(self.edges)) and self.edges[value][0] == place

    def with_arrow(self, arrow):
        """The board with one arrow more, the last one; raises InvalidArrow with its number."""
        return Board(self.letters, self.hands, [*self.edges, arrow])

    def without_arrow(self, index):
        """The board without one of its arrows; raises InvalidArrow, DeadEnd."""
        if not is_index(index, len(self.edges)):
            raise InvalidArrow(index)
        return Board(self.letters, self.hands, [*self.edges[:index], *self.edges[index + 1:]])

    def turned(self):
        """The board with the owners exchanged."""
        return Board(self.letters, [3 - owner for owner in self.hands], self.edges)

    def __add__(self, other):
        check_same_lamps(self.letters, other.letters)
        first = len(self.hands)
        owners = [*self.hands, *other.hands]
        arrows = [*self.edges, *[(first + origin, first + goal, lit) for origin, goal, lit in other.edges]]
        if len(owners) > Board.PLACES:
            raise TooMany(Board.PLACES)
        if len(arrows) > Board.ARROWS:
            raise TooMany(Board.ARROWS)
        return Board(self.letters, owners, arrows)

    def __eq__(self, other):
        return (isinstance(other, Board) and self.letters == other.letters and self.hands == other.hands
                and self.edges == other.edges)

    def __len__(self):
        return len(self.edges)

    def __repr__(self):
        return f"Board({len(self.hands)} places, {len(self.edges)} arrows)"


def side_by_side(*boards):
    """The sum of one or more boards, from left to right; raises LampsDiffer, TooMany."""
    total = boards[0]
    for board in boards[1:]:
        total = total + board
    return total


def ranks(board, hand, places):
    """For each place the number of arrows behind which a hand can make each walk arrive at some places, or None.

    Raises InvalidHand, InvalidPlace.
    """
    check_hand(hand)
    for place in places:
        board.check_place(place)
    found = [0 if place in places else None for place in range(board.places)]
    # Each further rank takes in a place, or there are no further ranks.
    for rank in range(1, board.places):
        found = [rank if is_next(board, hand, place, found) else found[place] for place in range(board.places)]
    return found


def is_next(board, hand, place, found):
    """Whether a place has no rank, and a hand can make each walk from there go on to a place that has one."""
    ahead = [found[board.arrow_at(number)[1]] is not None for number in board.leaving(place)]
    return found[place] is None and (any(ahead) if board.owner_of(place) == hand else all(ahead))
