"""Plans: small machines that tell a hand where to move on a board, by one of a few notes."""

from relitgoals.errors import InvalidPlan
from relitgoals.kinds import check_hand, is_index, is_row


def is_move(value, board, hand, place):
    """Whether any value is a move of a plan of a hand at a place."""
    return board.leaves(value, place) if board.owner_of(place) == hand else value is None


def are_moves(table, board, hand):
    """Whether any value is the table of the moves of a plan."""
    if not isinstance(table, (list, tuple)) or not 1 <= len(table) <= Plan.NOTES:
        return False
    return all([is_row_of_moves(row, board, hand) for row in table])


def is_row_of_moves(row, board, hand):
    """Whether any value has a move for each place."""
    return is_row(row, board.places) and all([is_move(row[at], board, hand, at) for at in range(board.places)])


def is_row_of_notes(row, many, notes):
    """Whether any value is a list of so many notes of a plan that has some notes."""
    return is_row(row, many) and all([is_index(note, notes) for note in row])


def are_nexts(table, board, notes):
    """Whether any value is the table of the next notes of a plan with so many notes."""
    return is_row(table, notes) and all([is_row_of_notes(row, len(board), notes) for row in table])


def check_tables(board, hand, firsts, moves, nexts):
    """Raises InvalidPlan with the name of the first wrong table."""
    if not are_moves(moves, board, hand):
        raise InvalidPlan("moves")
    if not are_nexts(nexts, board, len(moves)):
        raise InvalidPlan("nexts")
    if not is_row_of_notes(firsts, board.places, len(moves)):
        raise InvalidPlan("firsts")


class Plan:
    """A plan of a hand for a board."""

    NOTES = 24

    def __init__(self, board, hand, firsts, moves, nexts):
        check_hand(hand)
        check_tables(board, hand, firsts, moves, nexts)
        self.ground = board
        self.player = hand
        self.starts = tuple(firsts)
        self.choices = tuple([tuple(row) for row in moves])
        self.changes = tuple([tuple(row) for row in nexts])

    @property
    def board(self):
        """The board of the plan."""
        return self.ground

    @property
    def hand(self):
        """The hand of the plan."""
        return self.player

    @property
    def notes(self):
        """The number of notes."""
        return len(self.choices)

    def firsts(self):
        """The list of the first notes."""
        return list(self.starts)

    def moves(self):
        """The list that has the list of the moves for each note."""
        return [list(row) for row in self.choices]

    def nexts(self):
        """The list that has the list of the next notes for each note."""
        return [list(row) for row in self.changes]

    def first_note(self, place):
        """The first note for a place."""
        return self.starts[place]

    def move_at(self, note, place):
        """The move for a note and a place."""
        return self.choices[note][place]

    def next_note(self, note, number):
        """The note behind an arrow that is taken with a note."""
        return self.changes[note][number]

    def allows(self, note, number):
        """Whether a walk that follows the plan may take an arrow with a note."""
        return self.move_at(note, self.ground.arrow_at(number)[0]) in (None, number)

    def __eq__(self, other):
        return (isinstance(other, Plan) and self.ground == other.ground and self.player == other.player
                and self.starts == other.starts and self.choices == other.choices and self.changes == other.changes)

    def __repr__(self):
        return f"Plan(hand {self.player}, {len(self.choices)} notes)"


def plan_table(plan):
    """The moves of a plan as a text with a line for each note."""
    return "".join([f"{note:>3}:{moves_text(row)}\n" for note, row in enumerate(plan.moves())])


def moves_text(row):
    """The moves of one note as a text."""
    words = ["." if move is None else str(move) for move in row]
    return "".join([f"{word:>4}" for word in words])
