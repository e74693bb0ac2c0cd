"""What holds over the whole program."""

import unittest
from random import Random

from relitgoals import errors, needs
from relitgoals.boards import Board, ranks, side_by_side
from relitgoals.books import Book
from relitgoals.desk import Desk
from relitgoals.goals import Goal, check_sentence, parts_of
from relitgoals.lamps import all_sets, is_lamps, is_set, is_within
from relitgoals.pages import read_book, write_book
from relitgoals.plans import Plan, plan_table
from relitgoals.solving import Solution, number_winners
from relitgoals.tellers import Teller, least_teller, wrong_row
from relitgoals.texts import board_text, goal_text, read_board, read_goal, sentence_text
from relitgoals.trees import Tree
from relitgoals.walks import Drive, Walk, breaking_walk, winning_places
from tests.helpers import any_board, any_plan, any_teller, goal_of_bits, same_values

GOAL = read_goal("ab: (a and b)")
BOARD = read_board("ab 12 0>1:a,0>1:b,1>0,1>1:a")
LIT = ("lit", "a")
ONE = Solution(BOARD, GOAL).plan(1)
TWO = Solution(BOARD, GOAL).plan(2)
TELLER = least_teller(GOAL)
TEST_BOARD = needs.test_board(GOAL)
SHORT = Plan(TEST_BOARD, 1, [0] * 3, [[0, None, None]], [[0] * 6])
BOARD_NAMES = {"lamps": "ab", "owners": BOARD.owners(), "arrows": BOARD.arrows()}


def filled(**given):
    book = Book(**given)
    book.apply(("goal", "g", goal_text(GOAL)), ("board", "b", board_text(BOARD)), ("goal", "x", "a: a"))
    return book


def raising_calls():
    """For each error a call that raises it, and the value of its field."""
    yield "InvalidLamps", lambda: Goal("ba", LIT), "ba"
    yield "InvalidSet", lambda: GOAL("c"), "c"
    yield "InvalidSentence", lambda: Goal("ab", ("not", ("lit", "c"))), 1
    yield "InvalidText", lambda: read_goal("?"), None
    yield "InvalidHand", lambda: Tree(GOAL).worth(True), True
    yield "InvalidPlace", lambda: BOARD.leaving(2), 2
    yield "InvalidOwner", lambda: Board("ab", [1, 3], []), 1
    yield "InvalidArrow", lambda: BOARD.without_arrow(4), 4
    yield "DeadEnd", lambda: Board("ab", [1, 2], [(0, 0, "")]), 1
    yield "LampsDiffer", lambda: Solution(BOARD, Goal("a", LIT)), None
    yield "BoardsDiffer", lambda: needs.reply(GOAL, ONE), None
    yield "TooMany", lambda: side_by_side(*[BOARD] * 7), 12
    yield "InvalidPlan", lambda: Plan(BOARD, 1, [0, 0], [[0, None]], []), "nexts"
    yield "InvalidWalk", lambda: Walk(BOARD, 0, [0], [2]), 2
    yield "InvalidStep", lambda: TELLER.step(2, "a"), 2
    yield "NoTestBoard", lambda: needs.test_plan(Goal.of_sets("ab")), None
    yield "NotesEnough", lambda: needs.reply(GOAL, needs.test_plan(GOAL)), 2
    yield "InvalidName", lambda: filled().apply(("goal", "G", "?")), "G"
    yield "DuplicateName", lambda: filled().apply(("rename", "g", "b")), "b"
    yield "WrongKind", lambda: filled().board_named("g"), "g"
    yield "CapacityExceeded", lambda: filled(limit=3).apply(("goal", "y", "a: a")), 3
    yield "InvalidCommand", lambda: filled().apply(["drop", "g"]), "drop"
    yield "InvalidLimit", lambda: filled().set_limit(2), 2
    yield "ParseError", lambda: read_book("goal g a: a\n?\n"), 1
    yield "UnknownName", lambda: filled().answer("z", "b"), "z"
    yield "NothingLeft", lambda: filled().redo(), None


def named_calls():
    """Pairs of calls by position and by name that must give equal values."""
    yield is_lamps("ab"), is_lamps(value="ab")
    yield is_set("a", "ab"), is_set(lamps="ab", value="a")
    yield is_within("a", "ab"), is_within(other="ab", one="a")
    yield list(all_sets("ab")), list(all_sets(lamps="ab"))
    yield check_sentence("ab", LIT), check_sentence(value=LIT, lamps="ab")
    yield list(parts_of(GOAL.sentence)), list(parts_of(sentence=GOAL.sentence))
    yield Goal("a", LIT), Goal(sentence=LIT, lamps="a")
    yield GOAL("ab"), GOAL(kept="ab")
    yield Tree(GOAL).parts("ab"), Tree(goal=GOAL).parts(lit="ab")
    yield Tree(GOAL).worth(1), Tree(GOAL).worth(hand=1)
    yield Tree(GOAL).ways(2), Tree(GOAL).ways(hand=2)
    yield BOARD, Board(**BOARD_NAMES)
    yield BOARD.leaving(1), BOARD.leaving(place=1)
    yield BOARD.with_arrow((0, 0, "")), BOARD.with_arrow(arrow=(0, 0, ""))
    yield BOARD.without_arrow(0), BOARD.without_arrow(index=0)
    yield ranks(BOARD, 1, [1]), ranks(places=[1], hand=1, board=BOARD)
    tables = {"firsts": ONE.firsts(), "moves": ONE.moves(), "nexts": ONE.nexts()}
    yield ONE, Plan(hand=1, board=BOARD, **tables)
    yield plan_table(ONE), plan_table(plan=ONE)
    walk = Walk(BOARD, 0, [0], [3])
    yield walk, Walk(ring=[3], lead=[0], place=0, board=BOARD)
    yield walk.winner(GOAL), walk.winner(goal=GOAL)
    yield walk.follows(ONE), walk.follows(plan=ONE)
    yield Drive(ONE, TWO, 0), Drive(place=0, two=TWO, one=ONE)
    yield breaking_walk(ONE, GOAL, 1), breaking_walk(place=1, goal=GOAL, plan=ONE)
    yield winning_places(ONE, GOAL), winning_places(goal=GOAL, plan=ONE)
    yield Solution(BOARD, GOAL).lot(1), Solution(goal=GOAL, board=BOARD).lot(hand=1)
    yield Solution(BOARD, GOAL).plan(2), Solution(BOARD, GOAL).plan(hand=2)
    yield Solution(BOARD, GOAL).winner(0), Solution(BOARD, GOAL).winner(place=0)
    yield number_winners([1], [(0, 0, 1)]), number_winners(arrows=[(0, 0, 1)], owners=[1])
    yield needs.test_board(GOAL), needs.test_board(goal=GOAL)
    yield needs.test_plan(GOAL), needs.test_plan(goal=GOAL)
    yield needs.reply(GOAL, SHORT), needs.reply(plan=SHORT, goal=GOAL)
    yield TELLER, Teller(steps=TELLER.steps(), lamps="ab")
    yield TELLER.step(0, "a"), TELLER.step(lit="a", room=0)
    yield TELLER.tells(["a"], ["b"]), TELLER.tells(ring=["b"], lead=["a"])
    yield least_teller(GOAL), least_teller(goal=GOAL)
    yield wrong_row(TELLER, ~GOAL), wrong_row(goal=~GOAL, teller=TELLER)
    yield sentence_text(LIT), sentence_text(sentence=LIT)
    yield goal_text(GOAL), goal_text(goal=GOAL)
    yield board_text(BOARD), board_text(board=BOARD)
    yield read_goal("a: a"), read_goal(text="a: a")
    yield read_board("a 1 0>0"), read_board(text="a 1 0>0")
    book = filled()
    yield book.goal_named("g"), book.goal_named(name="g")
    yield book.board_named("b"), book.board_named(name="b")
    yield book.text("g"), book.text(name="g")
    yield book.answer("g", "b").lot(1), book.answer(board="b", goal="g").lot(1)
    yield book.set_limit(3), book.set_limit(value=3)
    yield write_book(book), write_book(book=book)
    yield read_book(write_book(book)), read_book(text=write_book(book))
    yield Desk(book=book).say("names"), Desk(book=book)(line="names")
    yield Desk(book=book)("names"), Desk(book=book).say(line="names")


def questions(random):
    """Many questions about several things, each one a call without arguments."""
    for _ in range(4):
        goal = goal_of_bits("abc", random.getrandbits(8))
        board = any_board(random, "abc", random.randint(2, 6), 14)
        plan = any_plan(random, board, random.choice((1, 2)), 3)
        teller = any_teller(random, "abc", 3, 5)
        tree = Tree(goal)
        solution = Solution(board, goal)
        book = filled(limit=random.randint(4, 20))
        book.apply(("goal", "q", goal_text(goal)), ("drop", "x"), ("board", "r", board_text(board)))
        desk = Desk(book=book)
        yield from questions_of_goals(goal, tree)
        yield from questions_of_boards(board, plan, goal, solution)
        yield lambda teller=teller, goal=goal: (teller.steps(), teller.numbers(), len(teller), repr(teller), wrong_row(teller, goal))
        yield lambda goal=goal: least_teller(goal)
        yield lambda book=book: (book.names(), book.names("goal"), len(book), repr(book), book.limit, book.history(), "q" in book)
        yield lambda book=book: [(book.text(name)) for name in book.names()]
        yield lambda book=book: (book.answer("q", "r").lot(1), book.answer("q", "r").plan(1), ("q", "r") in book.kept())
        yield lambda book=book: (write_book(book), read_book(write_book(book)) == book, book.twin() == book, book.busy)
        yield lambda desk=desk: [desk(line) for line in ("names", "show q", "worth q", "lot q r", "lot q b", "drop x", "?")]


def questions_of_goals(goal, tree):
    yield lambda: (goal.lamps, goal.sentence, goal.sets(), len(goal), repr(goal), [goal(kept) for kept in all_sets("abc")])
    yield lambda: (~goal, goal & goal, goal | ~goal, goal == ~~goal, goal_text(goal))
    yield lambda: (list(tree.branches()), tree.height(), tree.worth(1), tree.ways(2), len(tree), repr(tree), tree.goal)
    yield lambda: needs.test_board(goal) if goal.sets() else None
    yield lambda: needs.test_plan(goal) if goal.sets() else None


def questions_of_boards(board, plan, goal, solution):
    yield lambda: (board.lamps, board.places, board.owners(), board.arrows(), len(board), repr(board), board_text(board))
    yield lambda: (board.turned(), board.with_arrow((0, 0, "a")), board + board, [board.leaving(at) for at in range(board.places)])
    yield lambda: [ranks(board, hand, [0]) for hand in (1, 2)]
    yield lambda: (plan.firsts(), plan.moves(), plan.nexts(), plan_table(plan), repr(plan), plan.board, plan.hand, plan.notes)
    yield lambda: (winning_places(plan, goal), [breaking_walk(plan, goal, at) for at in range(board.places)])
    yield lambda: [(solution.lot(hand), solution.plan(hand), repr(solution)) for hand in (1, 2)]
    yield lambda: [Drive(solution.plan(1), solution.plan(2), at).told() for at in range(board.places)]
    yield lambda: number_winners(board.owners(), [(origin, end, len(lit)) for origin, end, lit in board.arrows()])


class RaisedTest(unittest.TestCase):
    def test_each_error(self):
        seen = []
        for name, call, value in raising_calls():
            with self.subTest(name):
                made = getattr(errors, name)
                with self.assertRaises(made) as caught:
                    call()
                error = caught.exception
                self.assertIs(type(error), made)
                self.assertEqual(error.tag, name)
                fields = {field: found for field, found in vars(error).items() if field != "tag"}
                self.assertTrue(same_values(list(fields.values()), [] if value is None else [value]))
                base = {"UnknownName": errors.Missing, "NothingLeft": IndexError}.get(name, errors.GoalError)
                self.assertEqual(made.__bases__, (base,))
                seen.append(name)
        classes = [name for name, found in vars(errors).items() if isinstance(found, type)]
        self.assertEqual(sorted([*seen, "GoalError", "Missing"]), sorted(classes))


class NamesTest(unittest.TestCase):
    def test_by_position_and_by_name(self):
        for at, (one, other) in enumerate(named_calls()):
            with self.subTest(at=at, one=one):
                self.assertEqual(one, other)

    def test_defaults_and_keywords(self):
        self.assertEqual((Book().limit, Book(limit=12).limit), (12, 12))
        self.assertEqual((Desk().book(), Desk(book=None).book()), (Book(), Book()))


class InTurnTest(unittest.TestCase):
    def test_asked_in_turn_and_again(self):
        asked = list(questions(Random("in turn")))
        self.assertGreater(len(asked), 70)
        answers = [call() for call in asked]
        random = Random("order")
        for _ in range(3):
            for at in random.sample(range(len(asked)), len(asked)):
                with self.subTest(at=at):
                    self.assertEqual(asked[at](), answers[at])
        for at, call in enumerate(questions(Random("in turn"))):
            self.assertEqual(call(), answers[at])

    def test_lists_that_are_returned_are_new(self):
        for call in questions(Random("new lists")):
            expected, changed = call(), call()
            spoil(changed)
            self.assertEqual(call(), expected)

    def test_desks_and_books_side_by_side(self):
        lines = ["goal g ab: (a and b)", "board b ab 12 0>1:a,0>1:b,1>0", "lot g b", "worth g", "undo", "names", "redo", "drop g", "undo",
                 "lot g b", "rename g h", "names", "show h", "?", "lot h b", "undo", "undo", "undo", "undo", "names"]
        desk = Desk()
        alone = [desk(line) for line in lines]
        desks = [Desk() for _ in range(5)]
        for line, answer in zip(lines, alone):
            self.assertEqual([one(line) for one in desks], [answer] * 5)
        self.assertEqual([one.log() for one in desks], [desk.log()] * 5)


def spoil(value):
    """Changes all lists in a value."""
    if isinstance(value, (list, tuple)):
        for item in value:
            spoil(item)
    if isinstance(value, list):
        value.append("spoiled")
        value[0] = "spoiled"


class HandedInTest(unittest.TestCase):
    def assert_copied(self, make, ask, *lists):
        """What is made does not change its lists, and does not follow their changes."""
        before = repr(lists)
        made = make(*lists)
        answer = repr(ask(made))
        self.assertEqual(repr(lists), before)
        spoil(list(lists))
        self.assertEqual(repr(ask(made)), answer)

    def test_lists_that_are_changed_behind_the_calls(self):
        self.assert_copied(lambda *rows: Board("ab", *rows), lambda board: (board.owners(), board.arrows(), board.leaving(0)),
                           BOARD.owners(), BOARD.arrows())
        self.assert_copied(lambda *rows: Plan(BOARD, 1, *rows), lambda plan: (plan.firsts(), plan.moves(), plan.nexts()),
                           ONE.firsts(), ONE.moves(), ONE.nexts())
        self.assert_copied(lambda *rows: Walk(BOARD, 0, *rows), lambda walk: (walk.lead(), walk.ring(), walk.told()), [0, 3], [3])
        self.assert_copied(lambda rows: Teller("ab", rows), lambda teller: teller.steps(), TELLER.steps())
        self.assert_copied(lambda *rows: number_winners(*rows), lambda found: found, [1, 2], [(0, 1, 3), (1, 0, 4), (1, 1, 5)])
        self.assert_copied(lambda rows: ranks(BOARD, 1, rows), lambda found: found, [1])
        self.assert_copied(lambda *rows: TELLER.tells(*rows), lambda found: found, ["a", "b"], ["ab"])

    def test_errors_keep_what_was_given(self):
        for call, attribute in ((lambda given: Goal(given, LIT), "given"), (lambda given: GOAL(given), "given"),
                                (lambda given: BOARD.leaving(given), "given"), (lambda given: filled().text(given), "name"),
                                (lambda given: filled().apply(("goal", given, "?")), "name"), (lambda given: Book(limit=given), "given"),
                                (lambda given: filled().apply((given, 1)), "word"), (lambda given: TELLER.step(given, "a"), "room")):
            given = ["a", ["b"]]
            with self.assertRaises((errors.GoalError, errors.Missing)) as caught:
                call(given)
            self.assertEqual(given, ["a", ["b"]])
            spoil(given)
            self.assertEqual(getattr(caught.exception, attribute), ["a", ["b"]])


if __name__ == "__main__":
    unittest.main()
