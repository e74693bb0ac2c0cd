import unittest
from itertools import product
from random import Random
from unittest import mock

from relitgoals.books import Book, changed
from relitgoals.errors import (CapacityExceeded, DuplicateName, GoalError, InvalidCommand, InvalidLimit, InvalidName,
                               InvalidText, Missing, NothingLeft, UnknownName, WrongKind)
from relitgoals.texts import read_board, read_goal
from tests.helpers import EqualCase, same_values

GOAL = "ab: (a and b)"
OTHER_GOAL = "ab: not b"
BOARD = "ab 12 0>1:a,0>1:b,1>0"
OTHER_BOARD = "a 1 0>0:a"
NO_NAMES = (None, True, False, 0, 1, -1, "", "A", "aB", "a1", "a b", " a", "a ", "a\n", "abcdefghi", "a_b", "a-b", (), ("a",), [],
            ["a"], [["a"], None], (("a",), 1))
NO_TEXTS = (None, True, 0, 1, (), [], ["a: a"], ("a: a",), "", " ", "a", "a: b", "a: a ", " a: a", "a 1", "a 1 0>0 ", "x\n")
NO_COMMANDS = (None, True, False, 0, 1, "", "goal", "drop a", (), [], ["goal", "x", GOAL], ["drop", "x"], [["drop"]], (None,),
               ("goal",), ("goal", "x"), ("goal", "x", GOAL, "y"), ("board", "x"), ("board",), ("rename", "x"), ("rename",),
               ("rename", "x", "y", "z"), ("drop",), ("drop", "x", "y"), ("undo",), ("redo",), ("names",), ("show", "x"), ("",),
               ("Goal", "x", GOAL), (("drop", "x"),), (True, "x"), (["goal"], "x", GOAL), (("goal",), "x", GOAL), (1, 2, 3),
               ("drops", "x"), [None, 1], [["goal", 1], 2])


def first_of(command):
    return command[0] if isinstance(command, (list, tuple)) and command else None


def state_of(book):
    """All that can be asked of a book."""
    rows = [(name, book.text(name)) for name in book.names()]
    return rows, book.names("goal"), book.names("board"), book.limit, book.history(), book.kept(), book.computed, book.busy


def filled(*names, **given):
    book = Book(**given)
    book.apply(*[("goal", name, GOAL) for name in names])
    return book


class BookCase(unittest.TestCase):
    def assert_raises(self, error, attribute, value, call, *args):
        with self.assertRaises(error) as caught:
            call(*args)
        self.assertIs(type(caught.exception), error)
        if attribute is not None:
            found = getattr(caught.exception, attribute)
            self.assertTrue(same_values(found, value), (found, value))

    def assert_refused(self, book, error, attribute, value, *commands):
        """A call of apply raises an error and changes nothing, alone and behind other commands."""
        before = state_of(book)
        with self.subTest(commands=commands):
            self.assert_raises(error, attribute, value, book.apply, *commands)
            self.assertEqual(state_of(book), before)
            self.assertIs(book.busy, False)


class MadeTest(BookCase):
    def test_an_empty_book(self):
        book = Book()
        self.assertEqual((book.names(), len(book), book.limit, book.history()), ([], 0, 12, (0, 0)))
        self.assertEqual((book.kept(), book.computed, book.busy, Book.MOST, book.MOST), ([], 0, False, 20, 20))
        self.assertEqual(repr(book), "Book(0 names)")

    def test_things(self):
        book = Book()
        self.assertIsNone(book.apply(("goal", "g", GOAL), ("board", "b", BOARD)))
        self.assertEqual((book.goal_named("g"), book.board_named("b")), (read_goal(GOAL), read_board(BOARD)))
        self.assertEqual(book.goal_named(name="g").sentence, read_goal(GOAL).sentence)
        self.assertEqual(book.board_named(name="b").arrows(), read_board(BOARD).arrows())
        self.assertEqual((book.text("g"), book.text(name="b")), (GOAL, BOARD))
        self.assertEqual((len(book), repr(book), book.names()), (2, "Book(2 names)", ["g", "b"]))
        self.assertEqual(["g" in book, "b" in book, "x" in book, "goal" in book], [True, True, False, False])
        self.assertEqual(repr(filled("g")), "Book(1 names)")

    def test_names_of_kinds(self):
        book = Book()
        book.apply(("goal", "g", GOAL), ("board", "b", BOARD), ("goal", "a", GOAL), ("board", "goal", BOARD))
        self.assertEqual(book.names(), ["g", "b", "a", "goal"])
        self.assertEqual((book.names("goal"), book.names("board")), (["g", "a"], ["b", "goal"]))
        self.assertEqual(book.names("board", "goal"), ["g", "b", "a", "goal"])
        self.assertEqual(book.names("goal", "goal"), ["g", "a"])
        for text in ("", "g", "Goal", "goals", "names", "boar"):
            self.assertEqual((book.names(text), book.names(text, "goal")), ([], ["g", "a"]))
        book.names().append("x")
        book.names("goal").clear()
        self.assertEqual(book.names(), ["g", "b", "a", "goal"])

    def test_any_value_in_a_book(self):
        book = filled("a", "b")
        for value in NO_NAMES:
            self.assertIs(value in book, False)

    def test_named(self):
        book = filled("g")
        book.apply(("board", "b", BOARD))
        for name in (*NO_NAMES, "x", "goal", "gg"):
            for call in (book.goal_named, book.board_named, book.text):
                self.assert_raises(UnknownName, "name", name, call, name)
        self.assert_raises(WrongKind, "name", "b", book.goal_named, "b")
        self.assert_raises(WrongKind, "name", "g", book.board_named, "g")


class CommandsTest(BookCase):
    def test_replacing_keeps_the_place(self):
        book = filled("a", "b", "c")
        book.apply(("goal", "b", OTHER_GOAL))
        self.assertEqual((book.names(), book.text("b")), (["a", "b", "c"], OTHER_GOAL))
        book.apply(("board", "x", BOARD), ("goal", "z", GOAL))
        book.apply(("board", "x", OTHER_BOARD), ("goal", "a", OTHER_GOAL))
        self.assertEqual(book.names(), ["a", "b", "c", "x", "z"])
        self.assertEqual([book.text(name) for name in "axz"], [OTHER_GOAL, OTHER_BOARD, GOAL])

    def test_rename_keeps_the_place(self):
        for name in "abc":
            book = filled("a", "b", "c")
            book.apply(("rename", name, "z"))
            self.assertEqual(book.names(), ["z" if other == name else other for other in "abc"])
            self.assertEqual(book.text("z"), GOAL)
            book.apply(("rename", "z", name))
            self.assertEqual(book.names(), ["a", "b", "c"])

    def test_drop(self):
        book = filled("a", "b", "c")
        book.apply(("drop", "b"))
        self.assertEqual((book.names(), "b" in book), (["a", "c"], False))
        book.apply(("goal", "b", GOAL))
        self.assertEqual(book.names(), ["a", "c", "b"])
        book.apply(("drop", "a"), ("drop", "b"), ("drop", "c"))
        self.assertEqual(len(book), 0)

    def test_names(self):
        for name in ("a", "z", "abcdefgh", "goal", "none", "aaaaaaaa"):
            book = filled(name)
            self.assertEqual(book.names(), [name])
        for name in NO_NAMES:
            for kind, text in (("goal", GOAL), ("board", BOARD), ("goal", "?"), ("board", None)):
                self.assert_refused(filled("a"), InvalidName, "name", name, (kind, name, text))
                self.assert_refused(filled("a", limit=1), InvalidName, "name", name, (kind, name, text))

    def test_wrong_kind(self):
        book = filled("g", limit=2)
        book.apply(("board", "b", BOARD))
        for text in (GOAL, BOARD, "", None):
            self.assert_refused(book, WrongKind, "name", "b", ("goal", "b", text))
            self.assert_refused(book, WrongKind, "name", "g", ("board", "g", text))
        # Dropped in the same step, the name is free.
        book.apply(("drop", "b"), ("goal", "b", GOAL))
        self.assertEqual(book.names("goal"), ["g", "b"])

    def test_limit(self):
        book = filled("a", "b", limit=2)
        for text in (GOAL, BOARD, "?", None):
            for kind in ("goal", "board"):
                self.assert_refused(book, CapacityExceeded, "limit", 2, (kind, "c", text))
        self.assert_refused(book, CapacityExceeded, "limit", 2, ("drop", "a"), ("goal", "c", GOAL), ("goal", "a", GOAL))
        self.assert_refused(book, CapacityExceeded, "limit", 2, ("goal", "c", GOAL), ("drop", "a"))
        book.apply(("drop", "a"), ("goal", "c", GOAL))
        book.apply(("goal", "b", OTHER_GOAL), ("rename", "c", "d"))
        self.assertEqual(book.names(), ["b", "d"])
        self.assert_refused(Book(limit=1), CapacityExceeded, "limit", 1, ("goal", "a", GOAL), ("goal", "b", GOAL))

    def test_the_greatest_limit(self):
        names = ["n" + chr(97 + at) for at in range(21)]
        book = filled(*names[:20], limit=20)
        self.assertEqual(len(book), 20)
        self.assert_refused(book, CapacityExceeded, "limit", 20, ("goal", names[20], GOAL))
        twelve = filled(*names[:12])
        self.assert_refused(twelve, CapacityExceeded, "limit", 12, ("goal", names[12], GOAL))

    def test_invalid_text(self):
        book = filled("g")
        book.apply(("board", "b", BOARD))
        for text in (*NO_TEXTS, BOARD):
            for name in ("g", "x"):
                self.assert_refused(book, InvalidText, None, None, ("goal", name, text))
        for text in (*NO_TEXTS, GOAL):
            for name in ("b", "x"):
                self.assert_refused(book, InvalidText, None, None, ("board", name, text))

    def test_rename_errors(self):
        book = filled("a", "b")
        for name, fresh in product((*NO_NAMES, "x"), ("a", "y", None, [], "A")):
            self.assert_refused(book, UnknownName, "name", name, ("rename", name, fresh))
        for fresh in NO_NAMES:
            self.assert_refused(book, InvalidName, "name", fresh, ("rename", "a", fresh))
        for fresh in ("a", "b"):
            self.assert_refused(book, DuplicateName, "name", fresh, ("rename", "a", fresh))

    def test_drop_errors(self):
        for name in (*NO_NAMES, "x"):
            self.assert_refused(filled("a"), UnknownName, "name", name, ("drop", name))
        self.assert_refused(filled("a"), UnknownName, "name", "a", ("drop", "a"), ("drop", "a"))
        self.assert_refused(filled("a"), UnknownName, "name", "a", ("rename", "a", "b"), ("drop", "a"))

    def test_invalid_commands_come_first(self):
        book = filled("a")
        wrong = ("goal", [], None)
        for command in NO_COMMANDS:
            word = first_of(command)
            self.assert_refused(book, InvalidCommand, "word", word, command)
            self.assert_refused(book, InvalidCommand, "word", word, ("drop", "a"), command)
            self.assert_refused(book, InvalidCommand, "word", word, wrong, command)
            self.assert_refused(book, InvalidCommand, "word", word, command, wrong)
            self.assert_refused(book, InvalidCommand, "word", word, wrong, command, ("show",))

    def test_the_first_error_of_several_commands(self):
        book = filled("a")
        rows = [(("goal", "A", GOAL), InvalidName), (("board", "a", BOARD), WrongKind), (("goal", "b", "?"), InvalidText),
                (("drop", "x"), UnknownName), (("rename", "a", "a"), DuplicateName)]
        for (one, error), (other, later) in product(rows, rows):
            self.assert_refused(book, error, None, None, one, other)
            self.assert_refused(book, error, None, None, ("goal", "c", GOAL), one, other)

    def test_a_step_with_an_error_changes_nothing(self):
        book = filled("a", "b")
        book.undo()
        self.assert_refused(book, UnknownName, "name", "x", ("goal", "c", GOAL), ("drop", "x"))
        self.assertEqual(book.history(), (0, 1))
        book.redo()
        self.assertEqual(book.names(), ["a", "b"])

    def test_commands_that_are_handed_in_are_not_kept(self):
        book = Book()
        name = ["a"]
        with self.assertRaises(InvalidName) as caught:
            book.apply(("goal", name, GOAL))
        name.append("b")
        self.assertEqual(caught.exception.name, ["a"])


class StepsTest(BookCase):
    def test_undo_and_redo(self):
        book = Book()
        self.assertIsNone(book.apply(("goal", "a", GOAL), ("goal", "b", GOAL)))
        book.apply(("drop", "a"))
        book.apply(("rename", "b", "c"))
        self.assertEqual(book.history(), (3, 0))
        names = []
        for at in range(3):
            self.assertIsNone(book.undo())
            names.append(book.names())
            self.assertEqual(book.history(), (2 - at, at + 1))
        self.assertEqual(names, [["b"], ["a", "b"], []])
        for at, expected in enumerate((["a", "b"], ["b"], ["c"])):
            self.assertIsNone(book.redo())
            self.assertEqual((book.names(), book.history()), (expected, (at + 1, 2 - at)))

    def test_nothing_left(self):
        book = Book()
        self.assert_raises(NothingLeft, None, None, book.undo)
        self.assert_raises(NothingLeft, None, None, book.redo)
        book.apply()
        self.assert_raises(NothingLeft, None, None, book.redo)
        book.undo()
        self.assert_raises(NothingLeft, None, None, book.undo)
        self.assertEqual(book.history(), (0, 1))

    def test_a_call_without_commands_is_a_step(self):
        book = filled("a")
        book.apply()
        self.assertEqual((book.history(), book.names()), ((2, 0), ["a"]))
        book.undo()
        self.assertEqual((book.history(), book.names()), ((1, 1), ["a"]))
        book.apply()
        self.assertEqual(book.history(), (2, 0))

    def test_redo_is_forgotten_behind_another_step(self):
        for commands in ((), (("goal", "z", GOAL),)):
            book = filled("a")
            book.undo()
            book.apply(*commands)
            self.assert_raises(NothingLeft, None, None, book.redo)
            self.assertEqual(book.history(), (1, 0))

    def test_undo_and_redo_do_not_look_at_the_limit(self):
        book = filled("a", "b", "c", limit=3)
        book.apply(("drop", "a"), ("drop", "b"))
        book.limit = 1
        book.undo()
        self.assertEqual((book.names(), book.limit), (["a", "b", "c"], 1))
        self.assert_refused(book, CapacityExceeded, "limit", 1, ("goal", "d", GOAL))
        self.assert_refused(book, CapacityExceeded, "limit", 1, ("drop", "a"), ("goal", "d", GOAL))
        for value in (1, 2):
            self.assert_raises(InvalidLimit, "given", value, book.set_limit, value)
        book.apply(("goal", "a", OTHER_GOAL), ("rename", "b", "z"))
        book.undo()
        book.undo()
        book.redo()
        self.assertEqual((book.names(), book.limit), (["a", "b", "c"], 1))
        book.set_limit(3)
        self.assertEqual(book.limit, 3)

    def test_many_steps_and_back(self):
        book = Book(limit=20)
        states = [[]]
        for at in range(150):
            name = "n" + chr(97 + at % 19)
            book.apply(("drop", name) if name in book else ("goal", name, GOAL))
            states.append(book.names())
        for expected in states[-2::-1]:
            book.undo()
            self.assertEqual(book.names(), expected)
        self.assertEqual(book.history(), (0, 150))
        for expected in states[1:]:
            book.redo()
            self.assertEqual(book.names(), expected)


class BusyTest(BookCase):
    def seen_busy(self, book, *commands):
        """What a book says of itself while each of its commands is applied."""
        seen = []

        def looking(*args):
            seen.append(book.busy)
            return changed(*args)

        with mock.patch("relitgoals.books.changed", looking):
            try:
                book.apply(*commands)
            except (GoalError, Missing):
                pass
        self.assertIs(book.busy, False)
        return seen

    def test_busy_while_commands_are_applied(self):
        book = Book()
        self.assertEqual(self.seen_busy(book, ("goal", "a", GOAL), ("drop", "a")), [True, True])
        self.assertEqual(self.seen_busy(book, ("goal", "a", GOAL), ("drop", "b"), ("drop", "a")), [True, True])
        self.assertEqual(self.seen_busy(book), [])
        self.assertEqual(self.seen_busy(book, ("goal", "a", GOAL), ["drop", "a"]), [])

    def test_not_busy_behind_other_calls(self):
        book = filled("a")
        for call in (book.undo, book.undo, book.redo, book.redo, lambda: book.set_limit(0), lambda: book.answer("a", "a")):
            try:
                call()
            except (GoalError, Missing, NothingLeft):
                pass
            self.assertIs(book.busy, False)

    def test_busy_cannot_be_assigned(self):
        with self.assertRaises(AttributeError):
            Book().busy = True
        with self.assertRaises(AttributeError):
            Book().computed = 3


class LimitTest(BookCase):
    WRONG = (0, -1, 21, 22, 999999999, True, False, None, "", "12", "a", (), (5,), [], [5])

    def test_constructor(self):
        for limit in range(1, 21):
            self.assertEqual(Book(limit=limit).limit, limit)
        for limit in self.WRONG:
            with self.assertRaises(InvalidLimit) as caught:
                Book(limit=limit)
            self.assertTrue(same_values(caught.exception.given, limit))
        with self.assertRaises(TypeError):
            Book(5)

    def assign(self, book, value):
        book.limit = value

    def test_assignment_and_set_limit(self):
        for way in (self.assign, lambda book, value: book.set_limit(value), lambda book, value: book.set_limit(value=value)):
            book = filled("a", "b", "c")
            for value in (3, 20, 4, 12):
                way(book, value)
                self.assertEqual(book.limit, value)
            for value in (*self.WRONG, 1, 2):
                self.assert_raises(InvalidLimit, "given", value, way, book, value)
                self.assertEqual(book.limit, 12)
            self.assertEqual(book.history(), (1, 0))
        self.assertIsNone(book.set_limit(5))

    def test_limits_of_books_with_many_names(self):
        for many, value in product(range(6), range(-1, 23)):
            book = filled(*"abcdef"[:many])
            if max(1, many) <= value <= 20:
                book.set_limit(value)
                self.assertEqual(book.limit, value)
            else:
                self.assert_raises(InvalidLimit, "given", value, book.set_limit, value)


class EqualTest(EqualCase):
    def test_equal(self):
        self.assert_equal(Book(), Book(limit=3), True)
        self.assert_equal(filled("a", "b"), filled("a", "b"), True)
        self.assert_equal(filled("a", "b"), filled("b", "a"), False)
        self.assert_equal(filled("a"), filled("a", "b"), False)
        self.assert_equal(filled("a"), filled("b"), False)
        one, other = filled("a", "c"), filled("c", "b", limit=5)
        other.apply(("drop", "c"))
        other.apply(("rename", "b", "a"), ("goal", "c", GOAL))
        self.assert_equal(one, other, True)

    def test_texts_and_kinds_count(self):
        one, other = filled("a"), Book()
        other.apply(("goal", "a", "ab: {ab}"))
        self.assertEqual(one.goal_named("a"), other.goal_named("a"))
        self.assert_equal(one, other, False)
        boards = Book()
        boards.apply(("board", "a", BOARD))
        self.assert_equal(one, boards, False)

    def test_other_values(self):
        for book in (Book(), filled("a")):
            for other in (None, 0, True, "", "a", [], ["a"], {}, repr(book), object(), Book):
                self.assert_equal(book, other, False)


class Model:
    """A book written down another way: rows of [name, kind, text], and all states of the past."""

    def __init__(self, limit):
        self.limit = limit
        self.states = [[]]
        self.at = 0

    def apply(self, commands):
        rows = [list(row) for row in self.states[self.at]]
        for command in commands:
            self.one(rows, *command)
        self.states[self.at + 1:] = [rows]
        self.at += 1

    def one(self, rows, word, name, *more):
        names = [row[0] for row in rows]
        if word in ("drop", "rename") and name not in names:
            raise UnknownName(name)
        if word == "drop":
            del rows[names.index(name)]
        elif word == "rename":
            if more[0] in names:
                raise DuplicateName(more[0])
            rows[names.index(name)][0] = more[0]
        elif name in names:
            if rows[names.index(name)][1] != word:
                raise WrongKind(name)
            rows[names.index(name)][2] = more[0]
        elif len(rows) >= self.limit:
            raise CapacityExceeded(self.limit)
        else:
            rows.append([name, word, more[0]])


class ModelTest(unittest.TestCase):
    def any_command(self, random):
        word = random.choice(("goal", "goal", "board", "board", "rename", "drop"))
        name = random.choice("abcdef")
        if word in ("goal", "board"):
            return word, name, random.choice((GOAL, OTHER_GOAL) if word == "goal" else (BOARD, OTHER_BOARD))
        return (word, name, random.choice("abcdef")) if word == "rename" else (word, name)

    def assert_same(self, book, model):
        rows = model.states[model.at]
        self.assertEqual(book.names(), [row[0] for row in rows])
        self.assertEqual([book.text(name) for name in book.names()], [row[2] for row in rows])
        self.assertEqual(book.names("goal"), [row[0] for row in rows if row[1] == "goal"])
        self.assertEqual(book.history(), (model.at, len(model.states) - 1 - model.at))
        self.assertEqual(len(book), len(rows))

    def test_many_steps(self):
        random = Random("steps of books")
        errors = {}
        for limit in (2, 3, 4, 6):
            book, model = Book(limit=limit), Model(limit)
            for _ in range(400):
                commands = [self.any_command(random) for _ in range(random.choice((0, 1, 1, 2, 3)))]
                kind = random.random()
                if kind < 0.2:
                    if model.at:
                        book.undo()
                        model.at -= 1
                elif kind < 0.35:
                    if model.at + 1 < len(model.states):
                        book.redo()
                        model.at += 1
                else:
                    raised = [self.raised(call, commands) for call in (lambda rows: book.apply(*rows), model.apply)]
                    self.assertEqual(*raised)
                    errors[raised[0][:1]] = errors.get(raised[0][:1], 0) + 1
                self.assert_same(book, model)
        self.assertEqual(len(errors), 5)
        self.assertGreater(min(errors.values()), 30)

    def raised(self, call, commands):
        try:
            call(commands)
        except (GoalError, Missing) as error:
            return type(error).__name__, getattr(error, "name", None), getattr(error, "limit", None)
        return ()


if __name__ == "__main__":
    unittest.main()
