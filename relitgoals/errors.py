"""The errors of the package. Each one has a tag, the name of its class, and what it was created with."""


def copied(value):
    """A copy of a value and of the lists in it: an error keeps what it was given, whatever becomes of that later."""
    if isinstance(value, list):
        return [copied(item) for item in value]
    if isinstance(value, tuple):
        return tuple([copied(item) for item in value])
    return value


class GoalError(ValueError):
    """The base class of the errors about wrong values."""


class InvalidLamps(GoalError):
    """A value that is no lamps."""

    def __init__(self, given):
        super().__init__(f"no lamps: {given!r}")
        self.tag = "InvalidLamps"
        self.given = copied(given)


class InvalidSet(GoalError):
    """A value that is no set of the lamps."""

    def __init__(self, given):
        super().__init__(f"no set of the lamps: {given!r}")
        self.tag = "InvalidSet"
        self.given = copied(given)


class InvalidSentence(GoalError):
    """A part of a sentence that has no known form, or is one too many."""

    def __init__(self, part):
        super().__init__(f"wrong part of a sentence: number {part}")
        self.tag = "InvalidSentence"
        self.part = part


class InvalidText(GoalError):
    """A text that is not written as it must be."""

    def __init__(self):
        super().__init__("the text is not written as it must be")
        self.tag = "InvalidText"


class InvalidHand(GoalError):
    """A value that is no hand, or a plan of the wrong hand."""

    def __init__(self, given):
        super().__init__(f"wrong hand: {given!r}")
        self.tag = "InvalidHand"
        self.given = copied(given)


class InvalidPlace(GoalError):
    """A value that is no place of the board."""

    def __init__(self, given):
        super().__init__(f"no place of the board: {given!r}")
        self.tag = "InvalidPlace"
        self.given = copied(given)


class InvalidOwner(GoalError):
    """An owner that is no hand, or is one too many."""

    def __init__(self, index):
        super().__init__(f"wrong owner: index {index}")
        self.tag = "InvalidOwner"
        self.index = copied(index)


class InvalidArrow(GoalError):
    """An arrow that does not fit the board, or is one too many."""

    def __init__(self, index):
        super().__init__(f"wrong arrow: index {index!r}")
        self.tag = "InvalidArrow"
        self.index = copied(index)


class DeadEnd(GoalError):
    """A place that no arrow leaves."""

    def __init__(self, origin):
        super().__init__(f"no arrow leaves the place {origin}")
        self.tag = "DeadEnd"
        self.origin = origin


class LampsDiffer(GoalError):
    """Things that must have the same lamps have not."""

    def __init__(self):
        super().__init__("the lamps differ")
        self.tag = "LampsDiffer"


class BoardsDiffer(GoalError):
    """Things that must have the same board have not."""

    def __init__(self):
        super().__init__("the boards differ")
        self.tag = "BoardsDiffer"


class TooMany(GoalError):
    """More places or arrows than a board may have."""

    def __init__(self, most):
        super().__init__(f"more than {most}")
        self.tag = "TooMany"
        self.most = most


class InvalidPlan(GoalError):
    """A table of a plan that does not fit the board."""

    def __init__(self, table):
        super().__init__(f"wrong table of a plan: {table}")
        self.tag = "InvalidPlan"
        self.table = table


class InvalidWalk(GoalError):
    """An item of a walk that does not lead on, or a ring that does not close."""

    def __init__(self, index):
        super().__init__(f"wrong walk: index {index}")
        self.tag = "InvalidWalk"
        self.index = copied(index)


class InvalidStep(GoalError):
    """A room of a teller whose steps are wrong, or that does not exist."""

    def __init__(self, room):
        super().__init__(f"wrong steps: room {room!r}")
        self.tag = "InvalidStep"
        self.room = copied(room)


class NoTestBoard(GoalError):
    """A goal that holds for no set has no test board."""

    def __init__(self):
        super().__init__("the goal holds for no set")
        self.tag = "NoTestBoard"


class NotesEnough(GoalError):
    """A plan that has too many notes to be replied to."""

    def __init__(self, many):
        super().__init__(f"{many} notes are enough")
        self.tag = "NotesEnough"
        self.many = many


class InvalidName(GoalError):
    """A value that is no name."""

    def __init__(self, name):
        super().__init__(f"no name: {name!r}")
        self.tag = "InvalidName"
        self.name = copied(name)


class DuplicateName(GoalError):
    """A name that is in use."""

    def __init__(self, name):
        super().__init__(f"the name is in use: {name!r}")
        self.tag = "DuplicateName"
        self.name = copied(name)


class WrongKind(GoalError):
    """A name of a thing of the other kind."""

    def __init__(self, name):
        super().__init__(f"a thing of the other kind: {name!r}")
        self.tag = "WrongKind"
        self.name = copied(name)


class CapacityExceeded(GoalError):
    """More names than the limit of a book."""

    def __init__(self, limit):
        super().__init__(f"more than {limit} names")
        self.tag = "CapacityExceeded"
        self.limit = limit


class InvalidCommand(GoalError):
    """A value that is no command."""

    def __init__(self, word):
        super().__init__(f"no command: {word!r}")
        self.tag = "InvalidCommand"
        self.word = copied(word)


class InvalidLimit(GoalError):
    """A value that cannot be the limit of a book."""

    def __init__(self, given):
        super().__init__(f"no limit: {given!r}")
        self.tag = "InvalidLimit"
        self.given = copied(given)


class ParseError(GoalError):
    """A line of a page that cannot be read."""

    def __init__(self, line):
        super().__init__(f"wrong line: index {line}")
        self.tag = "ParseError"
        self.line = line


class Missing(LookupError):
    """The base class of the errors about things that are not there."""


class UnknownName(Missing):
    """A name that nothing has."""

    def __init__(self, name):
        super().__init__(f"unknown name: {name!r}")
        self.tag = "UnknownName"
        self.name = copied(name)


class NothingLeft(IndexError):
    """There is no step to undo or redo."""

    def __init__(self):
        super().__init__("there is no step left")
        self.tag = "NothingLeft"
