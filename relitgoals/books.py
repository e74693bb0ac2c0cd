"""Books: goals and boards by name, with history and kept answers."""

from relitgoals.errors import (CapacityExceeded, DuplicateName, InvalidCommand, InvalidLimit, InvalidName, NothingLeft,
                               UnknownName, WrongKind)
from relitgoals.kinds import is_number
from relitgoals.lamps import LETTERS, is_within
from relitgoals.solving import Solution
from relitgoals.texts import read_board, read_goal

MOST_LETTERS = 8
KINDS = ("goal", "board")
COMMAND_SIZES = {"goal": 3, "board": 3, "rename": 3, "drop": 2}


def is_name(value):
    """Whether any value is a name."""
    return isinstance(value, str) and 1 <= len(value) <= MOST_LETTERS and is_within(value, LETTERS)


def has_name(things, value):
    """Whether any value is the name of one of some things."""
    return is_name(value) and value in things


def check_name(value):
    """Raises InvalidName unless a value is a name."""
    if not is_name(value):
        raise InvalidName(value)


def check_known(things, value):
    """Raises UnknownName unless a value is the name of one of some things."""
    if not has_name(things, value):
        raise UnknownName(value)


def check_kind(things, name, kind):
    """Raises WrongKind unless the thing with a name is of a kind."""
    if things[name][0] != kind:
        raise WrongKind(name)


def check_limit(value, names):
    """Raises InvalidLimit unless a value can be the limit of a book with so many names."""
    if not is_number(value) or not 1 <= value <= Book.MOST or value < names:
        raise InvalidLimit(value)


def check_command(value):
    """Raises InvalidCommand unless a value has the form of a command."""
    word = value[0] if isinstance(value, (list, tuple)) and len(value) > 0 else None
    if not isinstance(value, tuple) or not isinstance(word, str) or COMMAND_SIZES.get(word) != len(value):
        raise InvalidCommand(word)


def with_thing(things, limit, kind, name, text):
    """Some things with one that is added, or that replaces one of its kind.

    Raises InvalidName, WrongKind, CapacityExceeded, InvalidText.
    """
    check_name(name)
    if name in things:
        check_kind(things, name, kind)
    elif len(things) >= limit:
        raise CapacityExceeded(limit)
    made = read_goal(text) if kind == "goal" else read_board(text)
    return {**things, name: (kind, text, made)}


def with_name(things, name, fresh):
    """Some things with another name for one; raises UnknownName, InvalidName, DuplicateName."""
    check_known(things, name)
    check_name(fresh)
    if fresh in things:
        raise DuplicateName(fresh)
    return {fresh if key == name else key: things[key] for key in things}


def without_thing(things, name):
    """Some things without one; raises UnknownName."""
    check_known(things, name)
    return {key: things[key] for key in things if key != name}


def changed(things, limit, command):
    """Some things behind a command; raises the errors of the command.

    Things are a dict that is never changed itself: it has a triple (kind, text, goal or board) for each name.
    """
    word, name, *more = command
    if word == "drop":
        return without_thing(things, name)
    if word == "rename":
        return with_name(things, name, more[0])
    return with_thing(things, limit, word, name, more[0])


def listed_things(things):
    """The list of the triples (kind, name, text) of some things, in order."""
    return [(things[name][0], name, things[name][1]) for name in things]


def still_holds(things, pair, solution):
    """Whether an answer for a pair of names is one for some things, too."""
    goal, board = pair
    return (goal in things and board in things
            and things[goal][2] == solution.goal and things[board][2] == solution.board)


class Book:
    """A book."""

    MOST = 20

    def __init__(self, *, limit=12):
        check_limit(limit, 0)
        self.bound = limit
        self.things = {}
        # The things before each step that can be undone, and behind each one that can be redone.
        self.past = []
        self.future = []
        self.answers = {}
        self.solved = 0
        self.applying = False

    @property
    def limit(self):
        """The limit of the number of names."""
        return self.bound

    @limit.setter
    def limit(self, value):
        check_limit(value, len(self.things))
        self.bound = value

    def set_limit(self, value):
        """Assigns the limit; raises InvalidLimit."""
        self.limit = value

    @property
    def busy(self):
        """Whether commands are being applied."""
        return self.applying

    @property
    def computed(self):
        """The number of answers that were computed and kept."""
        return self.solved

    def apply(self, *commands):
        """Applies any number of commands as one step; raises InvalidCommand, and the errors of the commands."""
        for command in commands:
            check_command(command)
        self.applying = True
        try:
            things = self.things
            for command in commands:
                things = changed(things, self.bound, command)
            self.past.append(self.things)
            self.future = []
            self.turn_to(things)
        finally:
            self.applying = False

    def undo(self):
        """Takes the last step back; raises NothingLeft."""
        if len(self.past) == 0:
            raise NothingLeft()
        self.future.append(self.things)
        self.turn_to(self.past.pop())

    def redo(self):
        """Makes the step again that was taken back last; raises NothingLeft."""
        if len(self.future) == 0:
            raise NothingLeft()
        self.past.append(self.things)
        self.turn_to(self.future.pop())

    def turn_to(self, things):
        """Takes over things, and forgets the answers that do not hold for them."""
        self.things = things
        answers = self.answers
        self.answers = {pair: answers[pair] for pair in answers if still_holds(things, pair, answers[pair])}

    def history(self):
        """The pair of the numbers of steps that can be undone and redone."""
        return len(self.past), len(self.future)

    def names(self, *kinds):
        """The list of the names of things of some kinds, of all without any, in order."""
        return [name for name in self.things if len(kinds) == 0 or self.things[name][0] in kinds]

    def goal_named(self, name):
        """The goal with a name; raises UnknownName, WrongKind."""
        return self.thing_named(name, "goal")

    def board_named(self, name):
        """The board with a name; raises UnknownName, WrongKind."""
        return self.thing_named(name, "board")

    def thing_named(self, name, kind):
        """The thing of a kind with a name; raises UnknownName, WrongKind."""
        check_known(self.things, name)
        check_kind(self.things, name, kind)
        return self.things[name][2]

    def text(self, name):
        """The text of the thing with a name; raises UnknownName."""
        check_known(self.things, name)
        return self.things[name][1]

    def answer(self, goal, board):
        """The solution for the names of a goal and a board; raises UnknownName, WrongKind, LampsDiffer."""
        aim = self.goal_named(goal)
        ground = self.board_named(board)
        if (goal, board) not in self.answers:
            self.answers[(goal, board)] = Solution(ground, aim)
            self.solved += 1
        return self.answers[(goal, board)]

    def kept(self):
        """The ascending list of the pairs of names whose answers are kept."""
        return sorted(list(self.answers))

    def twin(self):
        """An independent book with the same things, limit, history, kept answers and number of computed ones."""
        other = Book(limit=self.bound)
        other.things = self.things
        other.past = list(self.past)
        other.future = list(self.future)
        other.answers = {pair: self.answers[pair] for pair in self.answers}
        other.solved = self.solved
        return other

    def __contains__(self, name):
        return has_name(self.things, name)

    def __len__(self):
        return len(self.things)

    def __eq__(self, other):
        return isinstance(other, Book) and listed_things(self.things) == listed_things(other.things)

    def __repr__(self):
        return f"Book({len(self.things)} names)"


def book_of(things):
    """The book with some things, with the greatest limit, and without steps and kept answers."""
    book = Book(limit=Book.MOST)
    book.things = things
    return book
