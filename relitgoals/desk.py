"""Desks: books that are led by lines of text."""

from relitgoals.books import KINDS, Book
from relitgoals.errors import GoalError, Missing, NothingLeft
from relitgoals.trees import Tree

# The number of words of each line; a text counts as one.
LINE_SIZES = {"goal": 3, "board": 3, "rename": 3, "drop": 2, "undo": 1, "redo": 1, "names": 1, "show": 2, "worth": 2,
              "lot": 3}
QUESTIONS = ("names", "show", "worth", "lot")


def words_of(line):
    """The list of the words of a line; the text that ends a line is one word."""
    kind = line.partition(" ")[0]
    return line.split(" ", 2) if kind in KINDS else line.split(" ")


def is_known(words):
    """Whether there is a line with such words."""
    return "" not in words and LINE_SIZES.get(words[0]) == len(words)


def listed(words):
    """Some words as one text."""
    return " ".join(words) or "none"


def change(book, words):
    """Changes a book as a line says."""
    if words[0] == "undo":
        book.undo()
    elif words[0] == "redo":
        book.redo()
    else:
        book.apply(tuple(words))


def asked(book, words):
    """What a book answers to a question."""
    word, *names = words
    if word == "names":
        return listed(book.names())
    if word == "show":
        return book.text(names[0])
    if word == "worth":
        tree = Tree(book.goal_named(names[0]))
        return f"{tree.worth(1)} {tree.worth(2)}"
    lot = book.answer(names[0], names[1]).lot(1)
    return listed([str(place) for place in lot])


def answer_to(book, line):
    """The answer of a book to a line."""
    words = words_of(line)
    if not is_known(words):
        return "unknown"
    try:
        if words[0] in QUESTIONS:
            return asked(book, words)
        change(book, words)
        return "done"
    except (GoalError, Missing, NothingLeft) as error:
        return f"error {error.tag}"


class Desk:
    """A desk."""

    def __init__(self, *, book=None):
        # An empty book is false, but it is a book.
        self.shelf = Book() if book is None else book
        self.entries = []

    def say(self, line):
        """The answer to a line."""
        answer = answer_to(self.shelf, line)
        self.entries.append((line, answer))
        return answer

    def __call__(self, line):
        return self.say(line)

    def book(self):
        """The book itself."""
        return self.shelf

    def log(self):
        """The list of the pairs (line, answer)."""
        return list(self.entries)

    def __len__(self):
        return len(self.entries)
