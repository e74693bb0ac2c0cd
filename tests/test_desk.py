import unittest
from random import Random

from relitgoals.books import Book
from relitgoals.desk import Desk
from relitgoals.texts import board_text, read_board, read_goal
from relitgoals.solving import Solution
from relitgoals.trees import Tree
from tests.helpers import any_board, some_goals
from tests.test_books import BOARD, GOAL, OTHER_BOARD

WORDS = ("goal", "board", "rename", "drop", "undo", "redo", "names", "show", "worth", "lot", "none", "done", "error", "unknown")
UNKNOWN = (
    "", " ", "  ", "x", "goal", "goal ", "goal g", "goal g ", "goal  ", "goal  a: a", f"goal  {GOAL}", f"goal  g {GOAL}", f" goal g {GOAL}",
    f"Goal g {GOAL}", f"goals g {GOAL}", f"goalg {GOAL}", "board", "board ", "board b", "board b ", f"board  b {BOARD}", f" board b {BOARD}",
    "rename", "rename g", "rename g ", "rename g h ", "rename g  h", "rename  g h", " rename g h", "rename g h i", "rename  ", "rename g h\n i",
    "drop", "drop ", "drop g ", "drop  g", " drop g", "drop g h", "drops g", "undo ", " undo", "undo undo", "undo 1", "Undo", "undo\n", "\nundo",
    "redo ", " redo", "redo g", "redo\n", "names ", " names", "names goal", "names\n", "name", "show", "show ", "show g ", "show  g", "show g h",
    " show g", "worth", "worth ", "worth g ", "worth  g", "worth g 1", " worth g", "lot", "lot ", "lot g", "lot g ", "lot g b ", "lot  g b",
    "lot g  b", " lot g b", "lot g b 1", "lots g b", "done", "none", "error", "unknown", "answer g b", "apply", "history", "kept", "twin",
    "goal\ng " + GOAL, "show\tg", "lot,g,b", "names names", "text g", "\n",
)


class DeskCase(unittest.TestCase):
    def desk(self, *lines):
        desk = Desk()
        for line in (f"goal g {GOAL}", f"board b {BOARD}", *lines):
            self.assertEqual(desk.say(line), "done", line)
        return desk

    def assert_answers(self, desk, rows):
        for line, answer in rows:
            with self.subTest(line):
                self.assertEqual(desk.say(line), answer)


class LinesTest(DeskCase):
    def test_commands(self):
        desk = Desk()
        self.assert_answers(desk, (
            ("names", "none"), (f"goal g {GOAL}", "done"), ("names", "g"), (f"board b {BOARD}", "done"), ("names", "g b"),
            ("show g", GOAL), ("show b", BOARD), ("rename g h", "done"), ("names", "h b"), ("drop h", "done"), ("names", "b"),
            ("undo", "done"), ("names", "h b"), ("undo", "done"), ("names", "g b"), ("redo", "done"), ("names", "h b"),
            ("goal h ab: a", "done"), ("show h", "ab: a"), ("redo", "error NothingLeft"), ("drop h", "done"), ("drop b", "done"),
            ("names", "none"), ("undo", "done"), ("names", "b"),
        ))

    def test_worth(self):
        desk = Desk()
        for goal in list(some_goals())[::5]:
            desk.book().apply(("goal", "g", "{}: {{{}}}".format(goal.lamps, ", ".join(kept or "-" for kept in goal.sets()))))
            tree = Tree(goal)
            self.assertEqual(desk.say("worth g"), f"{tree.worth(1)} {tree.worth(2)}")
        self.assert_answers(self.desk("goal h a: {}"), (("worth g", "2 1"), ("worth h", "1 1")))

    def test_lot(self):
        desk = self.desk(f"board c {OTHER_BOARD}", "goal h ab: {}", "goal a a: a", "board d ab 121 0>1:a,0>0:b,1>0:b,2>2:a")
        self.assert_answers(desk, (("lot g b", "0 1"), ("lot h b", "none"), ("lot a c", "0"), ("lot g d", "0 1")))
        book = desk.book()
        self.assertEqual((book.kept(), book.computed), ([("a", "c"), ("g", "b"), ("g", "d"), ("h", "b")], 4))
        self.assertEqual((desk.say("lot g b"), book.computed), ("0 1", 4))
        self.assertEqual(book.history()[0], 6)

    def test_lots_with_many_places(self):
        random = Random("lots")
        for _ in range(40):
            board = any_board(random, "ab", 12, 30)
            desk = self.desk(f"board b {board_text(board)}")
            lot = Solution(board, read_goal(GOAL)).lot(1)
            self.assertEqual(desk("lot g b"), " ".join(map(str, lot)) or "none")

    def test_errors(self):
        desk = self.desk("goal x a: a")
        many = [f"goal n{letter} {GOAL}" for letter in "abcdefghi"]
        self.assert_answers(desk, (
            (f"goal G {GOAL}", "error InvalidName"), ("goal abcdefghi ?", "error InvalidName"), (f"board b1 {BOARD}", "error InvalidName"),
            (f"goal b {GOAL}", "error WrongKind"), ("board g ?", "error WrongKind"), ("goal y ?", "error InvalidText"),
            (f"goal y {BOARD}", "error InvalidText"), (f"board y {GOAL}", "error InvalidText"), ("goal y not", "error InvalidText"),
            ("rename y z", "error UnknownName"), ("rename y Z", "error UnknownName"), ("rename g Z", "error InvalidName"),
            ("rename g g", "error DuplicateName"), ("rename g b", "error DuplicateName"), ("drop y", "error UnknownName"),
            ("drop Y", "error UnknownName"), ("redo", "error NothingLeft"), ("show y", "error UnknownName"),
            ("worth y", "error UnknownName"), ("worth b", "error WrongKind"), ("lot y b", "error UnknownName"),
            ("lot g y", "error UnknownName"), ("lot b b", "error WrongKind"), ("lot g g", "error WrongKind"),
            ("lot b y", "error WrongKind"), ("lot y g", "error UnknownName"), ("lot x b", "error LampsDiffer"),
            *[(line, "done") for line in many], (f"goal y {GOAL}", "error CapacityExceeded"), ("goal y ?", "error CapacityExceeded"),
            ("board y ?", "error CapacityExceeded"), (f"goal Y {GOAL}", "error InvalidName"),
        ))
        self.assertEqual(Desk().say("undo"), "error NothingLeft")
        self.assertEqual((desk.book().kept(), desk.book().computed), ([], 0))

    def test_a_text_that_begins_with_a_space(self):
        desk = self.desk()
        self.assert_answers(desk, ((f"goal x  {GOAL}", "error InvalidText"), (f"board x  {BOARD}", "error InvalidText"),
                                   ("goal x  ", "error InvalidText"), ("goal x   ", "error InvalidText"),
                                   (f"goal x {GOAL} ", "error InvalidText"), (f"goal x {GOAL}\n", "error InvalidText"),
                                   (f"goal X  {GOAL}", "error InvalidName"), (f"goal b  {GOAL}", "error WrongKind")))

    def test_unknown_lines(self):
        desk = self.desk()
        before = desk.book().twin()
        for line in UNKNOWN:
            with self.subTest(line):
                self.assertEqual(desk.say(line), "unknown")
        self.assertEqual((desk.book(), desk.book().history()), (before, before.history()))

    def test_names_that_are_words_of_lines(self):
        for name in WORDS:
            desk = Desk()
            self.assert_answers(desk, (
                (f"goal {name} {GOAL}", "done"), ("names", name), (f"show {name}", GOAL), (f"worth {name}", "2 1"),
                (f"board b {BOARD}", "done"), (f"lot {name} b", "0 1"), (f"rename {name} x", "done"), ("rename x " + name, "done"),
                ("names", f"{name} b"), (f"drop {name}", "done"), ("names", "b"), (f"rename b {name}", "done"),
                (f"board {name} {OTHER_BOARD}", "done"), (f"show {name}", OTHER_BOARD), (f"goal {name} {GOAL}", "error WrongKind"),
            ))


class DeskTest(DeskCase):
    def test_a_new_book(self):
        desk = Desk()
        self.assertIsInstance(desk.book(), Book)
        self.assertEqual((desk.book(), desk.book().limit, desk.log(), len(desk)), (Book(), 12, [], 0))
        self.assertIs(desk.book(), desk.book())
        self.assertIsNot(Desk().book(), desk.book())
        self.assertIsInstance(Desk(book=None).book(), Book)

    def test_this_very_book(self):
        for book in (Book(limit=2), self.desk().book()):
            desk = Desk(book=book)
            self.assertIs(desk.book(), book)
            self.assertEqual(desk.say("goal g a: a"), "done")
            self.assertEqual(book.text("g"), "a: a")
            book.apply(("drop", "g"))
            self.assertEqual(desk.say("show g"), "error UnknownName")
        with self.assertRaises(TypeError):
            Desk(book)

    def test_two_desks_of_one_book(self):
        book = Book()
        one, two = Desk(book=book), Desk(book=book)
        self.assertEqual((one.say("goal g a: a"), two.say("show g"), two.say("undo"), one.say("names")), ("done", "a: a", "done", "none"))
        self.assertEqual(one.log(), [("goal g a: a", "done"), ("names", "none")])
        self.assertEqual(two.log(), [("show g", "a: a"), ("undo", "done")])

    def test_a_desk_that_is_called(self):
        desk = Desk()
        self.assertEqual((desk("goal g a: a"), desk(line="show g"), desk.say(line="names"), desk("?")), ("done", "a: a", "g", "unknown"))
        self.assertEqual((len(desk), desk.log()[0]), (4, ("goal g a: a", "done")))

    def test_log(self):
        desk = Desk()
        lines = ["goal g a: a", "", "goal g a: a", "?", "undo", "undo", "undo", "names", "lot g b", "show g", " "]
        answers = [desk(line) for line in lines]
        self.assertEqual(desk.log(), list(zip(lines, answers)))
        self.assertEqual(len(desk), len(lines))
        self.assertEqual({type(pair) for pair in desk.log()}, {tuple})
        desk.log().clear()
        self.assertEqual(len(desk.log()), len(lines))

    def test_a_book_that_is_changed_beside(self):
        desk = self.desk()
        desk.say("lot g b")
        desk.book().apply(("board", "b", "ab 1 0>0:a"))
        self.assertEqual(desk.say("lot g b"), "none")
        self.assertEqual(read_board(desk.say("show b")).places, 1)


if __name__ == "__main__":
    unittest.main()
