"""The pages of books, written and read."""

from relitgoals.books import KINDS, Book, book_of, changed, listed_things
from relitgoals.errors import GoalError, ParseError


def write_book(book):
    """The page of a book."""
    return "".join([f"{kind} {name} {text}\n" for kind, name, text in listed_things(book.things)])


def read_line(things, index, line):
    """Some things with that of a line of a page; raises ParseError with the index of the line."""
    kind, blank, rest = line.partition(" ")
    name, blank, text = rest.partition(" ")
    if kind not in KINDS or name in things:
        raise ParseError(index)
    try:
        return changed(things, Book.MOST, (kind, name, text))
    except GoalError:
        raise ParseError(index) from None


def read_book(text):
    """The book with a page; raises ParseError."""
    things = {}
    *lines, last = text.split("\n")
    for index, line in enumerate(lines):
        things = read_line(things, index, line)
    # What stands behind the last line feed is a line that lacks its own.
    if last != "":
        raise ParseError(len(lines))
    return book_of(things)
