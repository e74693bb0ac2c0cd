"""The texts of sentences, goals and boards, written and read."""

from relitgoals.boards import Board
from relitgoals.errors import GoalError, InvalidText
from relitgoals.goals import JOINING_WORDS, MOST_COUNT, MOST_PARTS, Goal
from relitgoals.lamps import LETTERS

EMPTY_SET = "-"


def set_text(lit):
    """The text of a set."""
    return lit or EMPTY_SET


def sentence_text(sentence):
    """The text of a sentence."""
    word, *rest = sentence
    if word == "lit":
        return rest[0]
    if word == "least":
        return f"{rest[0]} of {set_text(rest[1])}"
    if word == "sets":
        listed = ", ".join([set_text(lit) for lit in rest])
        return "{" + listed + "}"
    inner = [sentence_text(part) for part in rest]
    if word == "not":
        return f"not {inner[0]}"
    sign = f" {word} "
    return f"({sign.join(inner)})"


def goal_text(goal):
    """The text of a goal."""
    return f"{goal.lamps}: {sentence_text(goal.sentence)}"


def arrow_text(arrow):
    """The text of an arrow."""
    origin, end, lit = arrow
    return f"{origin}>{end}:{lit}" if lit else f"{origin}>{end}"


def board_text(board):
    """The text of a board."""
    owners = "".join([str(owner) for owner in board.owners()])
    arrows = ",".join([arrow_text(arrow) for arrow in board.arrows()])
    return f"{board.lamps} {owners} {arrows}"


class Reader:
    """Reads the text of a sentence from left to right. It may take more than such texts; what it took is compared."""

    def __init__(self, source):
        self.source = source
        self.spot = 0
        self.begun = 0

    def takes(self, piece):
        """Whether a piece of text comes next; then it is taken."""
        if not self.source.startswith(piece, self.spot):
            return False
        self.spot += len(piece)
        return True

    def take_set(self):
        """Takes a set."""
        if self.takes(EMPTY_SET):
            return ""
        begin = self.spot
        while self.spot < len(self.source) and self.source[self.spot] in LETTERS:
            self.spot += 1
        return self.source[begin:self.spot]

    def take_part(self):
        """Takes a sentence; raises InvalidText."""
        self.begun += 1
        # Without this, a text with many parts inside each other would lead too deep.
        if self.begun > MOST_PARTS:
            raise InvalidText()
        if self.takes("not "):
            return ("not", self.take_part())
        if self.takes("("):
            return self.take_joined()
        if self.takes("{"):
            return self.take_listed()
        for count in range(1, MOST_COUNT + 1):
            if self.takes(f"{count} of "):
                return ("least", count, self.take_set())
        return ("lit", self.take_set())

    def take_joined(self):
        """Takes the rest of a sentence behind its parenthesis; raises InvalidText."""
        parts = [self.take_part()]
        for word in JOINING_WORDS:
            sign = f" {word} "
            while self.takes(sign):
                parts.append(self.take_part())
            if self.takes(")"):
                return (word, *parts)
        raise InvalidText()

    def take_listed(self):
        """Takes the rest of a list of sets behind its brace; raises InvalidText."""
        if self.takes("}"):
            return ("sets",)
        sets = [self.take_set()]
        while self.takes(", "):
            sets.append(self.take_set())
        if not self.takes("}"):
            raise InvalidText()
        return ("sets", *sets)


def check_string(value):
    """Raises InvalidText unless a value is a string."""
    if not isinstance(value, str):
        raise InvalidText()


def check_same_text(one, other):
    """Raises InvalidText unless two texts are the same."""
    if one != other:
        raise InvalidText()


def read_goal(text):
    """The goal with a text; raises InvalidText."""
    check_string(text)
    lamps, colon, rest = text.partition(": ")
    try:
        goal = Goal(lamps, Reader(rest).take_part())
    except GoalError:
        raise InvalidText() from None
    check_same_text(goal_text(goal), text)
    return goal


def read_place(word):
    """The place that a text names, or None."""
    names = [str(place) for place in range(Board.PLACES)]
    return names.index(word) if word in names else None


def read_arrow(word):
    """The arrow with a text, or a tuple that is no arrow."""
    ends, colon, lit = word.partition(":")
    origin, sign, end = ends.partition(">")
    return (read_place(origin), read_place(end), lit)


def read_board(text):
    """The board with a text; raises InvalidText."""
    check_string(text)
    words = text.split(" ")
    if len(words) != 3:
        raise InvalidText()
    lamps, owners, arrows = words
    try:
        board = Board(lamps, [read_place(owner) for owner in owners], [read_arrow(word) for word in arrows.split(",")])
    except GoalError:
        raise InvalidText() from None
    check_same_text(board_text(board), text)
    return board
