import unittest
from random import Random

from relitgoals.boards import Board, side_by_side
from relitgoals.errors import InvalidHand, InvalidPlace, LampsDiffer
from relitgoals.goals import Goal
from relitgoals.needs import test_board as board_of
from relitgoals.plans import Plan
from relitgoals.solving import Solution
from relitgoals.trees import Tree
from relitgoals.walks import Drive, breaking_walk, winning_places
from tests.helpers import NO_HANDS, NO_NUMBERS, any_board, goal_of_bits, same_values, sets_of, some_goals, wins


def any_goal(random, lamps):
    """Some goal; a random one has a flat tree, so every second one has few sets or few sets less than all."""
    bits = random.getrandbits(2 ** len(lamps))
    if random.random() < 0.5:
        bits &= random.getrandbits(2 ** len(lamps))
    return ~goal_of_bits(lamps, bits) if random.random() < 0.5 else goal_of_bits(lamps, bits)


def any_case(random, most_places, lamps=None):
    """Some board, and some goal with the same lamps."""
    lamps = lamps or random.choice(("a", "bx", "abc", "abcd"))
    places = random.randint(1, most_places)
    return any_board(random, lamps, places, random.randint(places, min(80, 3 * places))), any_goal(random, lamps)


def numbered_anew(board, order):
    """The board whose place order[place] is the place of a board."""
    owners = [None] * board.places
    for place, owner in enumerate(board.owners()):
        owners[order[place]] = owner
    return Board(board.lamps, owners, [(order[origin], order[end], lit) for origin, end, lit in board.arrows()])


def renamed(lit, letters):
    return "".join(sorted(letters[lamp] for lamp in lit))


class SolvingCase(unittest.TestCase):
    def assert_solved(self, board, goal):
        """Checks the lots and the plans of a solution; returns it."""
        solution = Solution(board, goal)
        lots = {hand: solution.lot(hand) for hand in (1, 2)}
        self.assertEqual(sorted(lots[1] + lots[2]), list(range(board.places)))
        tree = Tree(goal)
        for hand, lot in lots.items():
            plan = solution.plan(hand)
            self.assertIsInstance(plan, Plan)
            self.assertEqual((plan.board, plan.hand, lot), (board, hand, sorted(lot)))
            self.assertGreaterEqual(plan.notes, 1)
            self.assertLessEqual(plan.notes, tree.worth(hand))
            self.assertEqual(winning_places(plan, goal), lot)
            for place in range(board.places):
                self.assertIs(breaking_walk(plan, goal, place) is None, place in lot)
        for place in range(board.places):
            winner = 1 if place in lots[1] else 2
            self.assertEqual(solution.winner(place), winner)
            self.assertEqual(Drive(solution.plan(1), solution.plan(2), place).winner(goal), winner)
        self.assertEqual(repr(solution), f"Solution({len(lots[1])} and {len(lots[2])} places)")
        return solution


class ManyBoardsTest(SolvingCase):
    def test_many_boards(self):
        random = Random("solving")
        sizes = {1: 0, 2: 0}
        for _ in range(400):
            board, goal = any_case(random, 12)
            with self.subTest(board.arrows(), owners=board.owners(), goal=goal.sets()):
                solution = self.assert_solved(board, goal)
                for hand in (1, 2):
                    sizes[hand] += len(solution.lot(hand))
        for hand in (1, 2):
            self.assertGreater(sizes[hand], 400)

    def test_small_boards_by_an_independent_search(self):
        random = Random("small boards")
        for _ in range(250):
            board, goal = any_case(random, 4)
            solution = Solution(board, goal)
            for place in range(board.places):
                with self.subTest(board.arrows(), owners=board.owners(), goal=goal.sets(), place=place):
                    # A hand that wins by a plan against all walks wins the place, and the other hand does not.
                    self.assertTrue(wins(solution.plan(solution.winner(place)), goal, place))

    def test_all_goals_over_two_lamps(self):
        random = Random("two lamps")
        for bits in range(16):
            for places in (1, 2, 5, 12):
                self.assert_solved(any_board(random, "ab", places, 2 * places), goal_of_bits("ab", bits))

    def test_goals_with_high_trees(self):
        random = Random("high trees")
        for even in (0, 1):
            goal = Goal.of_sets("abcd", *[kept for kept in sets_of("abcd") if len(kept) % 2 == even])
            for _ in range(40):
                places = random.randint(4, 12)
                board = any_board(random, "abcd", places, random.randint(2 * places, 80))
                # Arrows that light few lamps make long games.
                arrows = [(origin, end, lit[:random.randint(0, 1)]) for origin, end, lit in board.arrows()]
                self.assert_solved(Board("abcd", board.owners(), arrows), goal)

    def test_the_largest_boards(self):
        random = Random("largest")
        for _ in range(10):
            self.assert_solved(any_board(random, "abcd", 12, 80), any_goal(random, "abcd"))

    def test_on_test_boards_just_as_many_notes_as_the_worth(self):
        for goal in list(some_goals())[::3]:
            if goal.sets():
                board = board_of(goal)
                solution = Solution(board, goal)
                self.assertIn(0, solution.lot(1))
                self.assertEqual(solution.plan(1).notes, Tree(goal).worth(1))
                turned = Solution(board.turned(), ~goal)
                self.assertEqual(turned.plan(2).notes, Tree(~goal).worth(2))

    def test_all_sets_and_no_set(self):
        random = Random("all sets")
        for lamps in ("a", "ab", "abcd"):
            board = any_board(random, lamps, 7, 15)
            none = Goal.of_sets(lamps)
            for goal, lots in ((none, ([], list(range(7)))), (~none, (list(range(7)), []))):
                solution = self.assert_solved(board, goal)
                self.assertEqual((solution.lot(1), solution.lot(2)), lots)
                self.assertEqual((solution.plan(1).notes, solution.plan(2).notes), (1, 1))
        self.assertEqual(repr(Solution(board, none)), "Solution(0 and 7 places)")


class RelationsTest(unittest.TestCase):
    def lots(self, board, goal):
        solution = Solution(board, goal)
        return solution.lot(1), solution.lot(2)

    def test_owners_exchanged_and_the_opposite_goal(self):
        random = Random("exchanged")
        for _ in range(150):
            board, goal = any_case(random, 12)
            self.assertEqual(self.lots(board.turned(), ~goal), self.lots(board, goal)[::-1])

    def test_places_numbered_anew(self):
        random = Random("anew")
        for _ in range(120):
            board, goal = any_case(random, 10)
            order = random.sample(range(board.places), board.places)
            expected = tuple(sorted(order[place] for place in lot) for lot in self.lots(board, goal))
            self.assertEqual(self.lots(numbered_anew(board, order), goal), expected)

    def test_arrows_in_another_order_and_twice(self):
        random = Random("order")
        for _ in range(120):
            board, goal = any_case(random, 10)
            arrows = board.arrows()
            arrows += random.sample(arrows, min(len(arrows), 80 - len(arrows)))
            random.shuffle(arrows)
            self.assertEqual(self.lots(Board(board.lamps, board.owners(), arrows), goal), self.lots(board, goal))

    def test_lamps_renamed(self):
        random = Random("renamed")
        for lamps, others in (("a", "z"), ("ab", "my"), ("abc", "bcx"), ("abcd", "aeyz")):
            for _ in range(30):
                board, goal = any_case(random, 8, lamps)
                letters = dict(zip(lamps, random.sample(others, len(others))))
                arrows = [(origin, end, renamed(lit, letters)) for origin, end, lit in board.arrows()]
                other = Goal.of_sets(others, *[renamed(kept, letters) for kept in goal.sets()])
                self.assertEqual(self.lots(Board(others, board.owners(), arrows), other), self.lots(board, goal))

    def test_the_sum_of_two_boards(self):
        random = Random("sum")
        for _ in range(100):
            one, goal = any_case(random, 6)
            other, _ = any_case(random, 6, one.lamps)
            first, second = self.lots(one, goal), self.lots(other, goal)
            expected = tuple(first[at] + [one.places + place for place in second[at]] for at in (0, 1))
            self.assertEqual(self.lots(side_by_side(one, other), goal), expected)

    def test_more_sets_never_make_the_lot_of_hand_one_smaller(self):
        random = Random("more sets")
        for _ in range(40):
            board, goal = any_case(random, 8)
            before = set(self.lots(board, goal)[0])
            for kept in random.sample(sets_of(goal.lamps), 2 ** len(goal.lamps)):
                goal = goal | Goal.of_sets(goal.lamps, kept)
                after = set(self.lots(board, goal)[0])
                self.assertLessEqual(before, after)
                before = after

    def test_equal_calls(self):
        random = Random("equal calls")
        for _ in range(20):
            board, goal = any_case(random, 8)
            one, two = Solution(board, goal), Solution(Board(board.lamps, board.owners(), board.arrows()), goal)
            for hand in (1, 2):
                self.assertEqual((one.lot(hand), one.plan(hand)), (two.lot(hand), two.plan(hand)))
                self.assertEqual((one.lot(hand), one.plan(hand)), (one.lot(hand), one.plan(hand)))


class ExamplesTest(SolvingCase):
    def setUp(self):
        self.board = Board("ab", [1, 2, 1], [(0, 0, "a"), (0, 0, "b"), (1, 0, ""), (1, 2, ""), (2, 2, "a")])
        self.goal = Goal("ab", ("and", ("lit", "a"), ("lit", "b")))

    def test_what_it_has(self):
        solution = self.assert_solved(self.board, self.goal)
        self.assertEqual((solution.board, solution.goal), (self.board, self.goal))
        self.assertEqual(solution.goal.sentence, self.goal.sentence)
        self.assertEqual((solution.lot(1), solution.lot(2)), ([0], [1, 2]))
        self.assertEqual([solution.winner(place) for place in range(3)], [1, 2, 2])
        self.assertEqual((solution.plan(1).notes, solution.plan(2).notes), (2, 1))
        self.assertEqual(repr(solution), "Solution(1 and 2 places)")

    def test_names(self):
        solution = Solution(goal=self.goal, board=self.board)
        self.assertEqual(solution.lot(hand=2), [1, 2])
        self.assertEqual(solution.plan(hand=2), solution.plan(2))
        self.assertEqual(solution.winner(place=0), 1)

    def test_lists_are_new(self):
        solution = Solution(self.board, self.goal)
        for hand, lot in ((1, [0]), (2, [1, 2])):
            solution.lot(hand).append(7)
            solution.lot(hand)[0] = 9
            self.assertEqual(solution.lot(hand), lot)
            self.assertIsNot(solution.lot(hand), solution.lot(hand))
            self.assertIs(type(solution.lot(hand)), list)
        for table in (solution.plan(1).moves(), solution.plan(1).nexts()):
            table[0][0] = None
        self.assert_solved(self.board, self.goal)

    def test_the_empty_set_counts(self):
        # Only hand two moves, and it can light nothing at all.
        board = Board("a", [2], [(0, 0, ""), (0, 0, "a")])
        for sets, winner in (((), 2), (("",), 2), (("a",), 2), (("", "a"), 1)):
            self.assertEqual(Solution(board, Goal.of_sets("a", *sets)).winner(0), winner)
            self.assertEqual(Solution(board.turned(), ~Goal.of_sets("a", *sets)).winner(0), 3 - winner)

    def test_lamps_differ(self):
        for lamps in ("a", "b", "abc", "ac"):
            with self.assertRaises(LampsDiffer):
                Solution(self.board, Goal.of_sets(lamps))

    def test_invalid_hand(self):
        solution = Solution(self.board, self.goal)
        for hand in NO_HANDS:
            for call in (solution.lot, solution.plan):
                with self.subTest(hand=hand):
                    with self.assertRaises(InvalidHand) as caught:
                        call(hand)
                    self.assertTrue(same_values(caught.exception.given, hand))

    def test_invalid_place(self):
        solution = Solution(self.board, self.goal)
        for place in (*NO_NUMBERS, 3, 12, 999999999):
            with self.subTest(place=place):
                with self.assertRaises(InvalidPlace) as caught:
                    solution.winner(place)
                self.assertTrue(same_values(caught.exception.given, place))


if __name__ == "__main__":
    unittest.main()
