import unittest
from itertools import product
from random import Random

from relitgoals.boards import Board
from relitgoals.errors import InvalidPlace, LampsDiffer
from relitgoals.goals import Goal
from relitgoals.plans import Plan
from relitgoals.walks import Walk, breaking_walk, winning_places
from tests.helpers import NO_NUMBERS, any_board, any_plan, goal_of_bits, same_values, sets_of, wins


class BreakingCase(unittest.TestCase):
    def assert_right(self, plan, goal):
        """Checks both functions from each place; returns the numbers of places where the plan wins and loses."""
        expected = [place for place in range(plan.board.places) if wins(plan, goal, place)]
        self.assertEqual(winning_places(plan, goal), expected)
        for place in range(plan.board.places):
            walk = breaking_walk(plan, goal, place)
            if place in expected:
                self.assertIsNone(walk)
            else:
                self.assert_breaks(walk, plan, goal, place)
        return len(expected), plan.board.places - len(expected)

    def assert_breaks(self, walk, plan, goal, place):
        self.assertIsInstance(walk, Walk)
        self.assertEqual((walk.board, walk.place), (plan.board, place))
        self.assertIs(walk.follows(plan), True)
        self.assertEqual(walk.winner(goal), 3 - plan.hand)


class ManyPlansTest(BreakingCase):
    def test_random_plans(self):
        random = Random("breaking")
        won = {1: 0, 2: 0}
        lost = {1: 0, 2: 0}
        for _ in range(700):
            lamps = random.choice(("a", "bx", "abc", "abcd"))
            board = any_board(random, lamps, random.randint(1, 5), random.randint(5, 9))
            goal = goal_of_bits(lamps, random.getrandbits(2 ** len(lamps)))
            plan = any_plan(random, board, random.choice((1, 2)), random.randint(1, 4))
            with self.subTest(board.arrows(), owners=board.owners(), goal=goal.sets(), plan=repr(plan)):
                more, less = self.assert_right(plan, goal)
                won[plan.hand] += more
                lost[plan.hand] += less
        for hand in (1, 2):
            self.assertGreater(won[hand], 200)
            self.assertGreater(lost[hand], 200)

    def test_all_goals_over_two_lamps(self):
        random = Random("all goals")
        for bits in range(16):
            goal = goal_of_bits("ab", bits)
            for hand, size in product((1, 2), (2, 3, 4, 6)):
                self.assert_right(any_plan(random, any_board(random, "ab", size, 2 * size), hand, 3), goal)

    def test_opposite_goals_of_a_turned_board(self):
        random = Random("turned")
        for _ in range(60):
            board = any_board(random, "abc", 4, 8)
            plan = any_plan(random, board, 1, 3)
            goal = goal_of_bits("abc", random.getrandbits(8))
            other = Plan(board.turned(), 2, plan.firsts(), plan.moves(), plan.nexts())
            self.assertEqual(winning_places(plan, goal), winning_places(other, ~goal))

    def test_large_plans(self):
        random = Random("large plans")
        for hand in (1, 2, 1, 2):
            board = any_board(random, "abcd", 12, 80)
            plan = any_plan(random, board, hand, 24)
            goal = goal_of_bits("abcd", random.getrandbits(16))
            places = winning_places(plan, goal)
            for place in range(12):
                walk = breaking_walk(plan, goal, place)
                self.assertIs(walk is None, place in places)
                if walk is not None:
                    self.assert_breaks(walk, plan, goal, place)

    def test_no_set_and_all_sets(self):
        random = Random("no set")
        for hand in (1, 2):
            board = any_board(random, "ab", 6, 14)
            plan = any_plan(random, board, hand, 3)
            none = Goal.of_sets("ab")
            self.assertEqual(winning_places(plan, none), [] if hand == 1 else list(range(6)))
            self.assertEqual(winning_places(plan, ~none), [] if hand == 2 else list(range(6)))
            self.assert_right(plan, none)
            self.assert_right(plan, ~none)


class ExamplesTest(BreakingCase):
    def test_both_lamps_in_turn(self):
        # The place 0 lights a or b; to light both without end, two notes are needed.
        board = Board("ab", [1], [(0, 0, "a"), (0, 0, "b")])
        goal = Goal("ab", ("and", ("lit", "a"), ("lit", "b")))
        for move in (0, 1):
            plan = Plan(board, 1, [0], [[move]], [[0, 0]])
            self.assertEqual(winning_places(plan, goal), [])
            self.assertEqual(breaking_walk(plan, goal, 0).kept(), "ab"[move])
        plan = Plan(board, 1, [0], [[0], [1]], [[1, 1], [0, 0]])
        self.assertEqual(winning_places(plan, goal), [0])
        self.assertIsNone(breaking_walk(plan, goal, 0))
        self.assertEqual(winning_places(plan, ~goal), [])

    def test_a_walk_that_is_broken_only_by_a_larger_set(self):
        # Hand two must go round both ways to light a and b.
        board = Board("ab", [2, 1, 1], [(0, 1, "a"), (0, 2, "b"), (1, 0, ""), (2, 0, "")])
        plan = Plan(board, 1, [0, 0, 0], [[None, 2, 3]], [[0] * 4])
        goal = ~Goal.of_sets("ab", "ab")
        self.assertEqual(winning_places(plan, goal), [])
        for place in range(3):
            walk = breaking_walk(plan=plan, goal=goal, place=place)
            self.assert_breaks(walk, plan, goal, place)
            self.assertEqual(walk.kept(), "ab")
        self.assertEqual(winning_places(plan=plan, goal=~Goal.of_sets("ab", "")), [0, 1, 2])

    def test_a_walk_that_is_broken_only_by_a_smaller_set(self):
        board = Board("ab", [2], [(0, 0, "a"), (0, 0, "b"), (0, 0, "")])
        plan = Plan(board, 1, [0], [[None]], [[0] * 3])
        for kept in sets_of("ab"):
            walk = breaking_walk(plan, ~Goal.of_sets("ab", kept), 0)
            self.assertEqual((walk.kept(), walk.follows(plan)), (kept, True))

    def test_a_ring_far_away(self):
        board = Board("a", [2] * 12, [*[(at, at + 1, "a") for at in range(11)], (11, 11, ""), *[(at, at, "a") for at in range(11)]])
        plan = Plan(board, 1, [0] * 12, [[None] * 12], [[0] * 23])
        goal = Goal("a", ("lit", "a"))
        self.assertEqual(winning_places(plan, goal), [])
        walk = breaking_walk(plan, goal, 0)
        self.assertEqual((walk.lead(), walk.ring()), (list(range(11)), [11]))

    def test_winning_from_some_places(self):
        board = Board("a", [1, 1, 2], [(0, 0, "a"), (1, 1, ""), (2, 0, ""), (2, 1, "")])
        plan = Plan(board, 1, [0] * 3, [[0, 1, None]], [[0] * 4])
        self.assertEqual(winning_places(plan, Goal("a", ("lit", "a"))), [0])
        self.assertEqual(winning_places(plan, Goal("a", ("sets", ""))), [1])
        other = Plan(board, 2, [0] * 3, [[None, None, 3]], [[0] * 4])
        self.assertEqual(winning_places(other, Goal("a", ("lit", "a"))), [1, 2])

    def test_only_notes_that_come_up_count(self):
        # The second note would lose, but no walk that follows the plan comes to it.
        board = Board("a", [1, 2], [(0, 0, "a"), (0, 0, ""), (1, 0, "")])
        plan = Plan(board, 1, [0, 0], [[0, None], [1, None]], [[0, 1, 0], [1, 1, 1]])
        self.assertEqual(winning_places(plan, Goal("a", ("lit", "a"))), [0, 1])
        self.assertIsNone(breaking_walk(plan, Goal("a", ("lit", "a")), 1))
        plan = Plan(board, 1, [0, 1], [[0, None], [1, None]], [[0, 1, 0], [1, 1, 1]])
        self.assertEqual(winning_places(plan, Goal("a", ("lit", "a"))), [0])


class ErrorsTest(unittest.TestCase):
    def setUp(self):
        self.board = Board("ab", [1, 2], [(0, 1, "a"), (1, 0, "")])
        self.plans = [Plan(self.board, 1, [0, 0], [[0, None]], [[0, 0]]), Plan(self.board, 2, [0, 0], [[None, 1]], [[0, 0]])]

    def test_lamps_differ_comes_first(self):
        for plan in self.plans:
            for lamps in ("a", "b", "abc", "ax"):
                goal = Goal.of_sets(lamps)
                with self.assertRaises(LampsDiffer):
                    winning_places(plan, goal)
                for place in (0, 1, 2, None, True):
                    with self.assertRaises(LampsDiffer):
                        breaking_walk(plan, goal, place)

    def test_invalid_place(self):
        for plan in self.plans:
            for place in (*NO_NUMBERS, 2, 12, 999999999):
                with self.subTest(place=place):
                    with self.assertRaises(InvalidPlace) as caught:
                        breaking_walk(plan, Goal("ab", ("lit", "a")), place)
                    self.assertTrue(same_values(caught.exception.given, place))

    def test_lists_are_new(self):
        goal = Goal("ab", ("lit", "a"))
        winning_places(self.plans[0], goal).append(7)
        self.assertEqual(winning_places(self.plans[0], goal), [0, 1])


if __name__ == "__main__":
    unittest.main()
