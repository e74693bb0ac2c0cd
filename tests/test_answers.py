import unittest
from random import Random

from relitgoals.books import Book
from relitgoals.errors import LampsDiffer, UnknownName, WrongKind
from relitgoals.goals import Goal
from relitgoals.solving import Solution
from tests.helpers import same_values
from tests.test_books import BOARD, GOAL, NO_NAMES, OTHER_BOARD, state_of

# The same goal in other words, and another one with the same lamps.
SAME_GOAL = "ab: not (not a or not b)"
NEAR_GOAL = "ab: (a or b)"
NEAR_BOARD = "ab 12 0>1:b,0>1:a,1>0"


def made():
    """A book with two goals and two boards, and the answers of all four pairs."""
    book = Book()
    book.apply(("goal", "g", GOAL), ("goal", "h", NEAR_GOAL), ("board", "b", BOARD), ("board", "c", NEAR_BOARD))
    for goal in "gh":
        for board in "bc":
            book.answer(goal, board)
    return book


ALL = [("g", "b"), ("g", "c"), ("h", "b"), ("h", "c")]


class AnswerTest(unittest.TestCase):
    def test_answers(self):
        book = made()
        for goal, board in ALL:
            found = book.answer(goal, board)
            self.assertIsInstance(found, Solution)
            self.assertEqual((found.goal, found.board), (book.goal_named(goal), book.board_named(board)))
            expected = Solution(book.board_named(board), book.goal_named(goal))
            for hand in (1, 2):
                self.assertEqual((found.lot(hand), found.plan(hand)), (expected.lot(hand), expected.plan(hand)))
            self.assertEqual(book.answer(board=board, goal=goal).lot(1), expected.lot(1))

    def test_kept_and_computed(self):
        book = Book()
        book.apply(("goal", "g", GOAL), ("goal", "h", NEAR_GOAL), ("board", "b", BOARD), ("board", "c", NEAR_BOARD))
        self.assertEqual((book.kept(), book.computed), ([], 0))
        for many, (pair, kept) in enumerate(((("h", "c"), ALL[3:]), (("g", "c"), [ALL[1], ALL[3]]), (("h", "b"), ALL[1:]))):
            book.answer(*pair)
            self.assertEqual((book.kept(), book.computed), (kept, many + 1))
            book.answer(*pair)
            self.assertEqual((book.kept(), book.computed), (kept, many + 1))
        self.assertEqual(book.history(), (1, 0))
        book.kept().append(("x", "y"))
        self.assertEqual(book.kept(), ALL[1:])

    def test_computed_counts_each_time(self):
        book = made()
        self.assertEqual(book.computed, 4)
        book.apply(("goal", "g", NEAR_GOAL))
        self.assertEqual((book.kept(), book.computed), (ALL[2:], 4))
        book.answer("g", "b")
        self.assertEqual((book.kept(), book.computed), ([ALL[0], *ALL[2:]], 5))

    def test_errors_in_order(self):
        book = made()
        book.apply(("goal", "z", "a: a"), ("board", "y", OTHER_BOARD))
        before = state_of(book)
        for name in (*NO_NAMES, "x"):
            for board in ("b", "g", "x", None, "y"):
                self.assert_raises(UnknownName, name, book, name, board)
            self.assert_raises(UnknownName, name, book, "g", name)
        for board in ("b", "g", "x", None, "y"):
            self.assert_raises(WrongKind, "b", book, "b", board)
        self.assert_raises(WrongKind, "h", book, "g", "h")
        self.assert_raises(WrongKind, "h", book, "z", "h")
        for pair in (("z", "b"), ("g", "y"), ("h", "y")):
            self.assert_raises(LampsDiffer, None, book, *pair)
        self.assertEqual(state_of(book), before)
        self.assertEqual(book.answer("z", "y").lot(1), [0])

    def assert_raises(self, error, name, book, *pair):
        with self.subTest(pair=pair):
            with self.assertRaises(error) as caught:
                book.answer(*pair)
            self.assertTrue(same_values(getattr(caught.exception, "name", None), name))


class KeptTest(unittest.TestCase):
    def assert_kept(self, pairs, *commands):
        """A step keeps just some answers; undo and redo of it bring none back."""
        book = made()
        book.apply(*commands)
        with self.subTest(commands=commands):
            self.assertEqual((book.kept(), book.computed), (pairs, 4))
            book.undo()
            self.assertEqual(book.kept(), pairs)
            book.redo()
            self.assertEqual((book.kept(), book.computed), (pairs, 4))

    def test_nothing_changes(self):
        self.assert_kept(ALL)
        self.assert_kept(ALL, ("goal", "x", GOAL))
        self.assert_kept(ALL, ("goal", "x", GOAL), ("drop", "x"))
        self.assert_kept(ALL, ("goal", "g", GOAL), ("board", "c", NEAR_BOARD))

    def test_equal_things(self):
        self.assert_kept(ALL, ("goal", "g", SAME_GOAL))
        self.assert_kept(ALL, ("goal", "g", "ab: {ab}"))
        self.assert_kept(ALL, ("drop", "g"), ("goal", "g", GOAL))
        self.assert_kept(ALL, ("drop", "b"), ("board", "b", BOARD))
        self.assert_kept(ALL, ("goal", "g", NEAR_GOAL), ("goal", "g", SAME_GOAL))
        self.assert_kept(ALL, ("rename", "g", "x"), ("rename", "x", "g"))
        self.assert_kept(ALL, ("rename", "g", "x"), ("goal", "g", SAME_GOAL))

    def test_other_things(self):
        self.assert_kept(ALL[2:], ("goal", "g", NEAR_GOAL))
        self.assert_kept(ALL[:2], ("goal", "h", "ab: a"))
        self.assert_kept([ALL[1], ALL[3]], ("board", "b", NEAR_BOARD))
        self.assert_kept([ALL[0], ALL[2]], ("board", "c", BOARD + ",1>0"))
        self.assert_kept([ALL[3]], ("board", "b", NEAR_BOARD), ("goal", "g", NEAR_GOAL))

    def test_other_lamps(self):
        self.assert_kept(ALL[2:], ("goal", "g", "a: a"))
        self.assert_kept([ALL[1], ALL[3]], ("board", "b", OTHER_BOARD))
        self.assert_kept(ALL[2:], ("goal", "g", "abc: (a and b)"))

    def test_names_that_go(self):
        self.assert_kept(ALL[2:], ("drop", "g"))
        self.assert_kept(ALL[:2], ("rename", "h", "x"))
        self.assert_kept([ALL[1], ALL[3]], ("drop", "b"))
        self.assert_kept([], ("drop", "b"), ("rename", "c", "x"))

    def test_exchanged_names(self):
        swap = (("rename", "g", "x"), ("rename", "h", "g"), ("rename", "x", "h"))
        self.assert_kept([], *swap)
        kinds = (("rename", "g", "x"), ("rename", "b", "g"), ("rename", "x", "b"))
        self.assert_kept([ALL[3]], *kinds)
        book = made()
        book.apply(("goal", "h", SAME_GOAL))
        for board in "bc":
            book.answer("h", board)
        self.assertEqual((book.kept(), book.computed), (ALL, 6))
        book.apply(*swap)
        self.assertEqual((book.kept(), book.text("g"), book.text("h")), (ALL, SAME_GOAL, GOAL))

    def test_equal_things_step_by_step(self):
        book = made()
        for text in (SAME_GOAL, "ab: {ab}", "ab: 2 of ab", GOAL):
            book.apply(("goal", "g", text))
            self.assertEqual(book.kept(), ALL)
            self.assertEqual(book.answer("g", "b").goal, book.goal_named("g"))
        self.assertEqual(book.computed, 4)

    def test_undo_and_redo(self):
        book = made()
        book.apply(("goal", "g", NEAR_GOAL))
        book.answer("g", "b")
        self.assertEqual((book.kept(), book.computed), ([ALL[0], *ALL[2:]], 5))
        book.undo()
        self.assertEqual((book.kept(), book.text("g")), (ALL[2:], GOAL))
        self.assertEqual(book.answer("g", "b").goal, Goal.of_sets("ab", "ab"))
        self.assertEqual((book.kept(), book.computed), ([ALL[0], *ALL[2:]], 6))
        book.redo()
        self.assertEqual(book.kept(), ALL[2:])
        book.undo()
        book.undo()
        self.assertEqual((book.kept(), book.computed), ([], 6))

    def test_undo_of_an_equal_thing(self):
        book = made()
        book.apply(("goal", "g", SAME_GOAL))
        book.undo()
        self.assertEqual((book.kept(), book.text("g")), (ALL, GOAL))

    def test_a_step_with_an_error_forgets_nothing(self):
        book = made()
        for wrong in (("drop", "x"), ("goal", "z"), ("goal", "g", "?")):
            with self.assertRaises((ValueError, LookupError)):
                book.apply(("drop", "g"), ("board", "b", OTHER_BOARD), wrong)
            self.assertEqual((book.kept(), book.computed), (ALL, 4))

    def test_many_steps(self):
        # A slow model: the answers are compared with what their names have now.
        random = Random("kept answers")
        texts = {"goal": (GOAL, SAME_GOAL, NEAR_GOAL, "a: a"), "board": (BOARD, NEAR_BOARD, OTHER_BOARD)}
        book, kept, computed, hits = Book(), {}, 0, 0
        book.apply(*[("goal", name, GOAL) for name in "gh"], *[("board", name, BOARD) for name in "bc"])
        for _ in range(1500):
            goal, board = random.choice("gh"), random.choice("bc")
            kind = random.random()
            if kind < 0.4:
                try:
                    book.answer(goal, board)
                    hits += (goal, board) in kept
                    computed += (goal, board) not in kept
                    kept[goal, board] = (book.goal_named(goal), book.board_named(board))
                except LampsDiffer:
                    pass
            elif kind < 0.55 and book.history()[0] > 1:
                book.undo()
            elif kind < 0.65 and book.history()[1]:
                book.redo()
            else:
                word = random.choice(("goal", "board"))
                book.apply((word, goal if word == "goal" else board, random.choice(texts[word])))
            kept = {pair: things for pair, things in kept.items()
                    if things == (book.goal_named(pair[0]), book.board_named(pair[1]))}
            self.assertEqual((book.kept(), book.computed), (sorted(kept), computed))
        self.assertGreater(hits, 50)
        self.assertGreater(computed, 100)


class TwinTest(unittest.TestCase):
    def made(self):
        book = made()
        book.apply(("drop", "c"))
        book.apply(("rename", "h", "k"))
        book.undo()
        book.limit = 7
        return book

    def test_the_same(self):
        book = self.made()
        other = book.twin()
        self.assertIsInstance(other, Book)
        self.assertIsNot(other, book)
        self.assertEqual(other, book)
        self.assertEqual(state_of(other), state_of(book))
        self.assertEqual((other.limit, other.history(), other.kept(), other.computed), (7, (2, 1), ALL[:1], 4))

    def test_twins_led_apart(self):
        leads = (lambda book: book.undo(), lambda book: book.redo(), lambda book: book.apply(),
                 lambda book: book.apply(("drop", "g")), lambda book: book.apply(("goal", "g", NEAR_GOAL)),
                 lambda book: book.apply(("goal", "n", GOAL)), lambda book: book.set_limit(20),
                 lambda book: book.apply(("rename", "h", "n")), lambda book: [book.undo(), book.answer("g", "c")])
        for lead in leads:
            for led in (0, 1):
                book = self.made()
                twins = (book, book.twin())
                before = state_of(book)
                lead(twins[led])
                self.assertEqual(state_of(twins[1 - led]), before)
                self.assertNotEqual(state_of(twins[led]), before)
                lead(twins[1 - led])
                self.assertEqual(state_of(twins[0]), state_of(twins[1]))

    def test_answers_led_apart(self):
        book = Book()
        book.apply(("goal", "g", GOAL), ("board", "b", BOARD))
        other = book.twin()
        other.answer("g", "b")
        self.assertEqual((book.kept(), book.computed, other.kept(), other.computed), ([], 0, ALL[:1], 1))
        third = other.twin()
        third.answer("g", "b")
        self.assertEqual((third.kept(), third.computed), (ALL[:1], 1))

    def test_a_twin_with_more_names_than_the_limit(self):
        book = Book(limit=3)
        book.apply(*[("goal", name, GOAL) for name in "abc"])
        book.apply(("drop", "a"), ("drop", "b"))
        book.limit = 1
        book.undo()
        other = book.twin()
        self.assertEqual((other.names(), other.limit), (["a", "b", "c"], 1))

    def test_twins_all_the_way_back(self):
        book = self.made()
        other = book.twin()
        for one in (book, other):
            while one.history()[0]:
                one.undo()
            self.assertEqual((one.names(), one.history()), ([], (0, 3)))
        for one in (other, book):
            while one.history()[1]:
                one.redo()
            self.assertEqual(one.names(), ["g", "k", "b"])


if __name__ == "__main__":
    unittest.main()
