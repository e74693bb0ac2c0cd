import unittest
from itertools import product
from random import Random

from relitgoals import needs
from relitgoals.boards import Board
from relitgoals.errors import BoardsDiffer, InvalidHand, NotesEnough, NoTestBoard
from relitgoals.goals import Goal
from relitgoals.needs import reply
from relitgoals.plans import Plan
from relitgoals.texts import read_goal
from relitgoals.trees import Tree
from relitgoals.walks import Drive, breaking_walk, winning_places
from tests.helpers import any_plan, any_tables, some_goals

BOTH = read_goal("ab: (a and b)")
# Its ways for hand one branch twice, and one set stands in several ways.
DEEP = Goal.of_sets("abcd", "abcd", "ab", "bc", "cd", "ad", "ac", "bd")


def goals_with_boards():
    yield from (goal for goal in some_goals() if goal.sets())
    yield DEEP


def told_rows(goal):
    """For each arrow of the test board that leads back: the index of its way, its set Z, what it lights. By [10]."""
    tree = Tree(goal)
    rows = []
    for index, way in enumerate(tree.ways(1)):
        for lit in way:
            if lit in goal.sets():
                behind = dict(zip(way, way[1:])).get(lit)
                rows += [(index, lit, part) for part in sorted(tree.parts(lit)) if part != behind]
                rows.append((index, lit, lit))
    return rows


def up_to(way, lit):
    """The sets of a way up to one of them."""
    return way[:way.index(lit) + 1]


def told_note(goal, index, lit):
    """The note of the test plan behind an arrow that stands for a set of a way. By [10]."""
    tree = Tree(goal)
    ways = tree.ways(1)
    begin = up_to(ways[index], lit)
    if begin == ways[index]:
        return index
    parts = tree.parts(lit)
    at = parts.index(ways[index][len(begin)])
    onward = parts[at + 1] if at + 1 < len(parts) else parts[0]
    return next(number for number, way in enumerate(ways) if way[:len(begin) + 1] == (*begin, onward))


def told_move(goal, missed, index):
    """The move of the reply at the place of a way. By [11]."""
    ways = Tree(goal).ways(1)
    rows = told_rows(goal)
    if index == missed:
        return len(ways) + min(at for at, row in enumerate(rows) if row[0] == index)
    common = max(size for size in range(6) if ways[index][:size] == ways[missed][:size])
    lit, following = ways[missed][common - 1], ways[missed][common]
    return len(ways) + rows.index((index, lit, following))


def short_plan(random, goal, notes):
    return any_plan(random, needs.test_board(goal), 1, notes)


class TestBoardTest(unittest.TestCase):
    def test_many_goals(self):
        for goal in goals_with_boards():
            with self.subTest(goal.sets()):
                worth = Tree(goal).worth(1)
                board = needs.test_board(goal)
                self.assertIsInstance(board, Board)
                self.assertEqual((board.lamps, board.owners()), (goal.lamps, [1] + [2] * worth))
                ahead = [(0, index + 1, "") for index in range(worth)]
                back = [(index + 1, 0, shown) for index, lit, shown in told_rows(goal)]
                self.assertEqual(board.arrows(), ahead + back)
                self.assertEqual(needs.test_board(goal), board)

    def test_examples(self):
        arrows = [(0, 1, ""), (0, 2, ""), (1, 0, "b"), (1, 0, "ab"), (2, 0, "a"), (2, 0, "ab")]
        self.assertEqual(needs.test_board(BOTH).arrows(), arrows)
        self.assertEqual(needs.test_board(goal=BOTH).owners(), [1, 2, 2])
        board = needs.test_board(read_goal("ab: not (a and b)"))
        self.assertEqual(board.arrows(), [(0, 1, ""), (1, 0, "a")])
        self.assertEqual(needs.test_board(read_goal("a: {-}")).arrows(), [(0, 1, ""), (1, 0, "")])
        self.assertEqual(needs.test_board(read_goal("a: {-, a}")).arrows(), [(0, 1, ""), (1, 0, "a")])
        self.assertEqual(needs.test_board(read_goal("a: a")).arrows(), [(0, 1, ""), (1, 0, "a")])

    def test_a_deep_example(self):
        # The set ab wins for hand one, and so does abcd; below abcd stand the four sets with three lamps.
        board = needs.test_board(DEEP)
        self.assertEqual((board.places, Tree(DEEP).worth(1)), (9, 8))
        first = Tree(DEEP).ways(1)[0]
        self.assertEqual(first, ("abcd", "abc", "ab", "a"))
        rows = [(1, 0, lit) for lit in ("abd", "acd", "bcd", "abcd", "b", "ab")]
        self.assertEqual(board.arrows()[8:14], rows)

    def test_equal_goals_have_equal_boards(self):
        self.assertEqual(needs.test_board(Goal.of_sets("ab", "ab")), needs.test_board(BOTH))
        self.assertEqual(needs.test_plan(Goal.of_sets("ab", "ab")), needs.test_plan(BOTH))

    def test_no_test_board(self):
        for text in ("a: {}", "abcd: {}", "a: (a and not a)", "ab: 3 of ab", "z: not 1 of -", "z: 1 of -"):
            goal = read_goal(text)
            for call in (needs.test_board, needs.test_plan):
                if goal.sets():
                    call(goal)
                else:
                    with self.assertRaises(NoTestBoard):
                        call(goal)


class TestPlanTest(unittest.TestCase):
    def test_many_goals(self):
        for goal in goals_with_boards():
            with self.subTest(goal.sets()):
                worth = Tree(goal).worth(1)
                plan = needs.test_plan(goal)
                self.assertIsInstance(plan, Plan)
                self.assertEqual((plan.board, plan.hand, plan.notes), (needs.test_board(goal), 1, worth))
                self.assertEqual(plan.firsts(), [0] * (worth + 1))
                self.assertEqual(plan.moves(), [[note] + [None] * worth for note in range(worth)])
                behind = [told_note(goal, index, lit) for index, lit, shown in told_rows(goal)]
                self.assertEqual(plan.nexts(), [[note] * worth + behind for note in range(worth)])

    def test_it_wins_from_the_place_0(self):
        for goal in goals_with_boards():
            with self.subTest(goal.sets()):
                plan = needs.test_plan(goal=goal)
                self.assertIn(0, winning_places(plan, goal))
                self.assertIsNone(breaking_walk(plan, goal, 0))

    def test_example(self):
        plan = needs.test_plan(BOTH)
        self.assertEqual(plan.nexts(), [[0, 0, 1, 1, 0, 0], [1, 1, 1, 1, 0, 0]])


class ReplyTest(unittest.TestCase):
    def assert_replied(self, goal, plan):
        worth = Tree(goal).worth(1)
        found = reply(goal, plan)
        self.assertIsInstance(found, Plan)
        self.assertEqual((found.board, found.hand, found.notes), (plan.board, 2, 1))
        missed = min(set(range(worth)) - {row[0] for row in plan.moves()})
        self.assertEqual(found.moves(), [[None, *[told_move(goal, missed, index) for index in range(worth)]]])
        self.assertEqual((found.firsts(), found.nexts()), ([0] * (worth + 1), [[0] * len(plan.board)]))
        self.assertEqual(Drive(plan, found, 0).winner(goal), 2)
        self.assertEqual(reply(goal, plan), found)

    def test_many_goals(self):
        random = Random("reply")
        replied = 0
        for goal in goals_with_boards():
            for notes in range(1, Tree(goal).worth(1)):
                with self.subTest(goal.sets(), notes=notes):
                    self.assert_replied(goal, short_plan(random, goal, notes))
                    replied += 1
        self.assertGreater(replied, 200)

    def test_many_plans_for_a_deep_goal(self):
        random = Random("deep")
        for notes in [*range(1, 8)] * 12:
            self.assert_replied(DEEP, short_plan(random, DEEP, notes))

    def test_each_missed_way(self):
        random = Random("missed")
        board = needs.test_board(DEEP)
        for missed in range(8):
            firsts, moves, nexts = any_tables(random, board, 1, 7)
            for row, choice in zip(moves, [index for index in range(8) if index != missed]):
                row[0] = choice
            self.assert_replied(DEEP, Plan(board, 1, firsts, moves, nexts))

    def test_all_plans_with_one_note_for_both_lamps(self):
        board = needs.test_board(BOTH)
        for move in (0, 1):
            plan = Plan(board, 1, [0, 0, 0], [[move, None, None]], [[0] * 6])
            self.assert_replied(BOTH, plan)
            # The first arrow at the place of the way that is not chosen; its lamp at the place of the other way.
            self.assertEqual(reply(plan=plan, goal=BOTH).moves(), [[None, 2, 4]])

    def test_an_equal_goal(self):
        plan = Plan(needs.test_board(BOTH), 1, [0, 0, 0], [[0, None, None]], [[0] * 6])
        self.assertEqual(reply(Goal.of_sets("ab", "ab"), plan), reply(BOTH, plan))


class ErrorsTest(unittest.TestCase):
    def setUp(self):
        self.random = Random("errors")
        self.board = needs.test_board(BOTH)
        self.other = Board("ab", [1, 2, 2], self.board.arrows()[::-1])
        self.none = Goal.of_sets("ab")

    def assert_raises(self, error, goal, plan):
        with self.assertRaises(error) as caught:
            reply(goal, plan)
        return caught.exception

    def test_no_test_board_comes_first(self):
        for board, hand, notes in product((self.board, self.other), (1, 2), (1, 2, 3)):
            self.assert_raises(NoTestBoard, self.none, any_plan(self.random, board, hand, notes))

    def test_boards_differ_comes_next(self):
        for hand, notes in product((1, 2), (1, 2, 3)):
            self.assert_raises(BoardsDiffer, BOTH, any_plan(self.random, self.other, hand, notes))
            more = self.board.with_arrow((1, 0, "a"))
            self.assert_raises(BoardsDiffer, BOTH, any_plan(self.random, more, hand, notes))
            self.assert_raises(BoardsDiffer, BOTH, any_plan(self.random, self.board.turned(), hand, notes))
            self.assert_raises(BoardsDiffer, DEEP, any_plan(self.random, self.board, hand, notes))

    def test_the_hand_comes_next(self):
        for notes in (1, 2, 3):
            error = self.assert_raises(InvalidHand, BOTH, any_plan(self.random, self.board, 2, notes))
            self.assertEqual(error.given, 2)

    def test_enough_notes(self):
        for notes in (2, 3, 24):
            error = self.assert_raises(NotesEnough, BOTH, any_plan(self.random, self.board, 1, notes))
            self.assertEqual(error.many, notes)
        error = self.assert_raises(NotesEnough, BOTH, needs.test_plan(BOTH))
        self.assertEqual(error.many, 2)
        # One note is always enough where the worth is 1.
        single = read_goal("a: a")
        error = self.assert_raises(NotesEnough, single, short_plan(self.random, single, 1))
        self.assertEqual(error.many, 1)


if __name__ == "__main__":
    unittest.main()
