import unittest
from random import Random

from relitgoals.books import Book
from relitgoals.errors import ParseError
from relitgoals.pages import read_book, write_book
from relitgoals.texts import board_text, goal_text
from tests.helpers import any_board, goal_of_bits
from tests.test_books import BOARD, GOAL, OTHER_BOARD, OTHER_GOAL

LINES = [f"goal g {GOAL}\n", f"board b {BOARD}\n", f"goal goal {OTHER_GOAL}\n", f"board abcdefgh {OTHER_BOARD}\n"]
WRONG_LINES = (
    "", " ", "goal", "board", "goal ", "goal x", "goal x ", "board x ", "goal  a: a", f"goal {GOAL}", f" goal x {GOAL}", f"goal x {GOAL} ",
    f"goal  x {GOAL}", f"goal x  {GOAL}", f"Goal x {GOAL}", f"goals x {GOAL}", f"goal X {GOAL}", f"goal abcdefghi {GOAL}",
    f"goal x1 {GOAL}", f"board x {GOAL}", f"goal x {BOARD}", f"x goal {GOAL}", f"goal\nx {GOAL}", "drop g", "rename g x",
    f"rename g x {GOAL}", "undo", "names", "show g", GOAL, BOARD, "none", f"goal x {GOAL}\ngoal x {GOAL}", "goal x ab: (a and a and)",
    f"board x {BOARD},", f"goal x {GOAL}\n", f"\ngoal x {GOAL}",
)


def signs_bent(line):
    """A line with one character taken out, doubled or exchanged, at each place but its line feed."""
    for at in range(len(line) - 1):
        yield line[:at] + line[at + 1:]
        yield line[:at] + line[at] + line[at:]
        yield line[:at] + "?" + line[at + 1:]


class PageCase(unittest.TestCase):
    def assert_refused(self, text, line):
        with self.subTest(text, line=line):
            with self.assertRaises(ParseError) as caught:
                read_book(text)
            self.assertEqual(caught.exception.line, line)


class ThereAndBackTest(PageCase):
    def assert_read(self, book):
        page = write_book(book)
        found = read_book(page)
        self.assertIsInstance(found, Book)
        self.assertEqual(found, book)
        self.assertEqual((found.limit, found.history(), found.kept(), found.computed, found.busy), (20, (0, 0), [], 0, False))
        self.assertEqual(write_book(found), page)
        return page

    def test_the_empty_book(self):
        self.assertEqual(self.assert_read(Book(limit=3)), "")
        self.assertEqual(read_book(text="").names(), [])
        self.assertEqual(write_book(book=Book()), "")

    def test_a_book(self):
        book = Book(limit=5)
        book.apply(("goal", "g", GOAL), ("board", "b", BOARD))
        book.apply(("goal", "goal", OTHER_GOAL), ("board", "abcdefgh", OTHER_BOARD))
        book.answer("g", "b")
        book.undo()
        book.redo()
        self.assertEqual(self.assert_read(book), "".join(LINES))
        self.assertEqual(book.history(), (2, 0))
        self.assertEqual(read_book("".join(LINES)).names("board"), ["b", "abcdefgh"])

    def test_what_is_read_is_a_book_as_any_other(self):
        book = read_book("".join(LINES))
        self.assertEqual(book.answer("g", "b").lot(1), [0, 1])
        book.apply(("drop", "b"), ("goal", "x", GOAL))
        book.undo()
        self.assertEqual((write_book(book), book.history()), ("".join(LINES), (0, 1)))

    def test_many_books(self):
        random = Random("pages")
        for many in range(21):
            book = Book(limit=20)
            for at in range(many):
                name = "".join(random.choice("abcxyz") for _ in range(random.randint(1, 7))) + chr(97 + at)
                lamps = random.choice(("a", "bx", "abcd"))
                if random.random() < 0.5:
                    text = goal_text(goal_of_bits(lamps, random.getrandbits(2 ** len(lamps))))
                    book.apply(("goal", name, text))
                else:
                    book.apply(("board", name, board_text(any_board(random, lamps, random.randint(1, 12), 20))))
            page = self.assert_read(book)
            self.assertEqual(page.count("\n"), many)

    def test_the_order_counts(self):
        for order in (LINES, LINES[::-1], LINES[1:] + LINES[:1]):
            page = "".join(order)
            self.assertEqual(write_book(read_book(page)), page)
            self.assertEqual(read_book(page).names(), [line.split(" ")[1] for line in order])


class WrongPagesTest(PageCase):
    def test_wrong_lines_at_each_index(self):
        for at in range(5):
            for wrong in WRONG_LINES:
                # A line feed inside splits the wrong line; then the piece that is wrong may be the next one.
                pieces = wrong.split("\n")
                first = 1 if len(pieces) > 1 and pieces[0] == f"goal x {GOAL}" else 0
                self.assert_refused("".join(LINES[:at]) + wrong + "\n" + "".join(LINES[at:]), at + first)

    def test_bent_lines(self):
        for at, line in enumerate(LINES):
            for bent in signs_bent(line):
                text = "".join([*LINES[:at], bent, *LINES[at + 1:]])
                try:
                    book = read_book(text)
                except ParseError as error:
                    # A name that becomes the name of a later line is found there.
                    later = [index for index, other in enumerate(LINES) if other.split(" ")[1] == bent.split(" ")[1:2][0]] \
                        if len(bent.split(" ")) > 1 else []
                    self.assertIn(error.line, [at, *later])
                else:
                    self.assertEqual(write_book(book), text)

    def test_doubled_lines(self):
        for at, line in enumerate(LINES):
            for before in range(at + 1):
                self.assert_refused("".join([*LINES[:before], line, *LINES[before:]]), at + 1)
            self.assert_refused("".join([*LINES, line]), 4)

    def test_a_name_that_stands_above(self):
        for again in (f"goal g {OTHER_GOAL}\n", f"goal g {GOAL}\n", f"board g {BOARD}\n", "goal g ?\n"):
            self.assert_refused("".join(LINES) + again, 4)

    def test_without_the_line_feed(self):
        for many in range(1, 5):
            self.assert_refused("".join(LINES[:many])[:-1], many - 1)
        for wrong in WRONG_LINES:
            if wrong and "\n" not in wrong:
                self.assert_refused("".join(LINES) + wrong, 4)

    def test_cut_pages(self):
        page = "".join(LINES)
        ends = [0]
        for line in LINES:
            ends.append(ends[-1] + len(line))
        for size in range(len(page)):
            if size in ends:
                self.assertEqual(write_book(read_book(page[:size])), page[:size])
            else:
                self.assert_refused(page[:size], page[:size].count("\n"))

    def test_empty_lines(self):
        self.assert_refused("\n", 0)
        self.assert_refused("\n\n", 0)
        self.assert_refused("".join(LINES) + "\n", 4)
        self.assert_refused(LINES[0] + "\n" + LINES[1], 1)

    def test_21_names(self):
        lines = [f"goal n{chr(97 + at)} {GOAL}\n" for at in range(22)]
        self.assertEqual(len(read_book("".join(lines[:20]))), 20)
        self.assert_refused("".join(lines[:21]), 20)
        self.assert_refused("".join(lines), 20)
        self.assert_refused("".join([lines[0], *lines]), 1)

    def test_the_first_of_several(self):
        self.assert_refused("?\n" + LINES[0] + LINES[0] + "x", 0)
        self.assert_refused(LINES[0] + LINES[0] + "?\nx", 1)
        self.assert_refused(LINES[0] + "?\n" + LINES[1][:-1], 1)


if __name__ == "__main__":
    unittest.main()
