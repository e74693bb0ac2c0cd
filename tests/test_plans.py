import unittest
from itertools import product
from random import Random

from relitgoals.boards import Board
from relitgoals.errors import InvalidHand, InvalidPlan
from relitgoals.plans import Plan, plan_table
from tests.helpers import NO_HANDS, NO_NUMBERS, EqualCase, any_board, any_plan, any_tables, leaving_of, same_values

# The arrows 0, 2 and 5 leave the place 0, the arrows 1 and 3 the place 1, and the arrow 4 the place 2.
ARROWS = [(0, 1, "a"), (1, 2, ""), (0, 0, "b"), (1, 0, "ab"), (2, 1, ""), (0, 2, "")]
BOARD = Board("ab", [1, 2, 1], ARROWS)
FIRSTS = [1, 0, 1]
MOVES = [[0, None, 4], [5, None, 4]]
NEXTS = [[0, 1, 0, 1, 0, 1], [1, 1, 1, 0, 0, 0]]
NO_LISTS = (None, True, False, 0, 1, 2, "", "ab", "010101")


def tables(**changed):
    """The tables of a right plan, in order, with some of them exchanged."""
    found = {"firsts": FIRSTS, "moves": MOVES, "nexts": NEXTS, **changed}
    return found["firsts"], found["moves"], found["nexts"]


def with_item(row, at, item):
    return [*row[:at], item, *row[at + 1:]]


def counting(notes):
    """The tables of a plan with so many notes that leaves the note as it is."""
    return [0] * 3, [[0, None, 4]] * notes, [[note] * 6 for note in range(notes)]


class PlanCase(unittest.TestCase):
    def assert_wrong(self, table, *, hand=1, **changed):
        with self.assertRaises(InvalidPlan) as caught:
            Plan(BOARD, hand, *tables(**changed))
        self.assertEqual(caught.exception.table, table)

    def assert_wrong_row(self, table, rows, at, row):
        """The row is wrong in a list and in a tuple, and as a list and as a tuple."""
        for made in (row, tuple(row) if isinstance(row, list) else row):
            with self.subTest(table, at=at, row=made):
                self.assert_wrong(table, **{table: with_item(rows, at, made)})
                self.assert_wrong(table, **{table: tuple(with_item(rows, at, made))})


class MadeTest(PlanCase):
    def test_what_it_has(self):
        plan = Plan(BOARD, 1, FIRSTS, MOVES, NEXTS)
        self.assertEqual((plan.board, plan.hand, plan.notes), (BOARD, 1, 2))
        self.assertEqual((plan.firsts(), plan.moves(), plan.nexts()), (FIRSTS, MOVES, NEXTS))
        self.assertEqual(repr(plan), "Plan(hand 1, 2 notes)")
        self.assertEqual((Plan.NOTES, plan.NOTES), (24, 24))

    def test_hand_two(self):
        plan = Plan(BOARD, 2, [0, 0, 0], [[None, 3, None]], [[0] * 6])
        self.assertEqual((plan.hand, plan.notes, plan.moves()), (2, 1, [[None, 3, None]]))
        self.assertEqual(repr(plan), "Plan(hand 2, 1 notes)")

    def test_tuples_and_names(self):
        inner = tuple(map(tuple, MOVES)), list(map(tuple, NEXTS))
        plan = Plan(nexts=inner[1], moves=inner[0], firsts=tuple(FIRSTS), hand=1, board=BOARD)
        self.assertEqual(plan, Plan(BOARD, 1, FIRSTS, MOVES, NEXTS))
        self.assertEqual((plan.firsts(), plan.moves(), plan.nexts()), (FIRSTS, MOVES, NEXTS))

    def test_many_plans(self):
        random = Random("plans")
        for notes in range(1, 25):
            board = any_board(random, "abc", random.randint(1, 12), random.randint(12, 80))
            for hand in (1, 2):
                firsts, moves, nexts = any_tables(random, board, hand, notes)
                plan = Plan(board, hand, firsts, moves, nexts)
                self.assertEqual((plan.firsts(), plan.moves(), plan.nexts()), (firsts, moves, nexts))
                self.assertEqual((plan.notes, repr(plan)), (notes, f"Plan(hand {hand}, {notes} notes)"))

    def test_a_hand_without_places(self):
        board = Board("a", [1, 1], [(0, 1, ""), (1, 0, "")])
        plan = Plan(board, 2, [0, 0], [[None, None]], [[0, 0]])
        self.assertEqual(plan.moves(), [[None, None]])

    def test_tables_that_are_changed_behind_the_call(self):
        firsts, moves, nexts = list(FIRSTS), [list(row) for row in MOVES], [list(row) for row in NEXTS]
        plan = Plan(BOARD, 1, firsts, moves, nexts)
        self.assertEqual((firsts, moves, nexts), (FIRSTS, MOVES, NEXTS))
        firsts[0] = 0
        moves[0][0] = 5
        moves.append([0, None, 4])
        nexts[1][2] = 0
        nexts.pop()
        self.assertEqual((plan.firsts(), plan.moves(), plan.nexts(), plan.notes), (FIRSTS, MOVES, NEXTS, 2))

    def test_returned_lists_are_new(self):
        plan = Plan(BOARD, 1, FIRSTS, MOVES, NEXTS)
        for call, expected in ((plan.firsts, FIRSTS), (plan.moves, MOVES), (plan.nexts, NEXTS)):
            call().append(7)
            call()[0] = 7
            self.assertEqual(call(), expected)
        plan.moves()[0][0] = 7
        plan.nexts()[0][0] = 7
        plan.moves()[1].append(7)
        self.assertEqual((plan.moves(), plan.nexts()), (MOVES, NEXTS))
        for table in (plan.firsts(), plan.moves(), plan.nexts(), *plan.moves(), *plan.nexts()):
            self.assertIs(type(table), list)

    def test_plans_never_change(self):
        plan = Plan(BOARD, 1, FIRSTS, MOVES, NEXTS)
        for name in ("board", "hand", "notes"):
            with self.assertRaises(AttributeError):
                setattr(plan, name, 1)


class ErrorsTest(PlanCase):
    def test_invalid_hand_comes_first(self):
        for hand in NO_HANDS:
            for given in (tables(), (None, None, None), tables(moves=[])):
                with self.subTest(hand=hand):
                    with self.assertRaises(InvalidHand) as caught:
                        Plan(BOARD, hand, *given)
                    self.assertTrue(same_values(caught.exception.given, hand))

    def test_each_wrong_move(self):
        right = {0: (0, 2, 5), 1: (None,), 2: (4,)}
        for note, place in product(range(2), range(3)):
            for move in (*NO_NUMBERS, 0, 1, 2, 3, 4, 5, 6, 7, 80, 999999999):
                row = with_item(MOVES[note], place, move)
                if any(same_values(move, one) for one in right[place]):
                    self.assertEqual(Plan(BOARD, 1, *tables(moves=with_item(MOVES, note, row))).moves()[note], row)
                else:
                    self.assert_wrong_row("moves", MOVES, note, row)

    def test_each_wrong_next_note(self):
        for note, number in product(range(2), range(6)):
            for wrong in (*NO_NUMBERS, 2, 3, 24, 999999999):
                self.assert_wrong_row("nexts", NEXTS, note, with_item(NEXTS[note], number, wrong))

    def test_each_wrong_first_note(self):
        for place in range(3):
            for wrong in (*NO_NUMBERS, 2, 3, 24, 999999999):
                with self.subTest(place=place, wrong=wrong):
                    self.assert_wrong("firsts", firsts=with_item(FIRSTS, place, wrong))
                    self.assert_wrong("firsts", firsts=tuple(with_item(FIRSTS, place, wrong)))

    def test_rows_too_short_and_too_long(self):
        for at in range(2):
            for row in ([], [0], [0, None], [0, None, 4, None], [0, None, 4, 0], *NO_LISTS):
                self.assert_wrong_row("moves", MOVES, at, row)
            for row in ([], [0], [0] * 5, [0] * 7, [0] * 400, *NO_LISTS):
                self.assert_wrong_row("nexts", NEXTS, at, row)
        for row in ([], [0], [0, 0], [0] * 4, [0] * 6, *NO_LISTS):
            with self.subTest(row=row):
                self.assert_wrong("firsts", firsts=row)
                self.assert_wrong("firsts", firsts=tuple(row) if isinstance(row, list) else row)

    def test_tables_that_are_no_lists(self):
        for name in ("firsts", "moves", "nexts"):
            for value in NO_LISTS:
                with self.subTest(name, value=value):
                    self.assert_wrong(name, **{name: value})

    def test_numbers_of_rows(self):
        for rows in ([], (), NEXTS[:1], [*NEXTS, NEXTS[0]], [NEXTS], [0, 1]):
            self.assert_wrong("nexts", nexts=rows)
        for rows in ([], (), [MOVES], [0, None, 4], [None], [[]]):
            self.assert_wrong("moves", moves=rows)

    def test_numbers_of_notes(self):
        for notes in (1, 2, 23, 24):
            self.assertEqual(Plan(BOARD, 1, *counting(notes)).notes, notes)
        for notes in (0, 25, 26, 400):
            with self.subTest(notes):
                with self.assertRaises(InvalidPlan) as caught:
                    Plan(BOARD, 1, *counting(notes))
                self.assertEqual(caught.exception.table, "moves")

    def test_the_order_of_the_tables(self):
        self.assert_wrong("moves", firsts=None, moves=None, nexts=None)
        self.assert_wrong("moves", firsts=[9], moves=[[0, None, 3]] * 2, nexts=[])
        self.assert_wrong("nexts", firsts=None, nexts=None)
        self.assert_wrong("nexts", firsts=[2, 2, 2], nexts=[[2] * 6] * 2)
        self.assert_wrong("firsts", firsts=None)

    def test_the_moves_of_the_other_hand(self):
        self.assert_wrong("moves", hand=2)
        self.assert_wrong("moves", hand=2, moves=[[None, 1, None], [0, 1, None]])
        self.assertEqual(Plan(BOARD, 2, *tables(moves=[[None, 1, None], [None, 3, None]])).hand, 2)

    def test_arguments_are_not_changed(self):
        firsts, moves, nexts = [0, 0, 0], [[0, None, [4]]], [[0] * 6]
        with self.assertRaises(InvalidPlan):
            Plan(BOARD, 1, firsts, moves, nexts)
        self.assertEqual((firsts, moves, nexts), ([0, 0, 0], [[0, None, [4]]], [[0] * 6]))


class EqualTest(EqualCase):
    def test_equal(self):
        plan = Plan(BOARD, 1, FIRSTS, MOVES, NEXTS)
        self.assert_equal(plan, Plan(Board("ab", [1, 2, 1], ARROWS), 1, FIRSTS, MOVES, NEXTS), True)
        self.assert_equal(plan, Plan(plan.board, plan.hand, plan.firsts(), plan.moves(), plan.nexts()), True)
        self.assert_equal(plan, plan, True)

    def test_not_equal(self):
        plan = Plan(BOARD, 1, FIRSTS, MOVES, NEXTS)
        self.assert_equal(plan, Plan(BOARD, 1, [0, 0, 1], MOVES, NEXTS), False)
        self.assert_equal(plan, Plan(BOARD, 1, FIRSTS, [MOVES[0], MOVES[0]], NEXTS), False)
        self.assert_equal(plan, Plan(BOARD, 1, FIRSTS, MOVES, [NEXTS[0], NEXTS[0]]), False)
        for board in (Board("abc", [1, 2, 1], ARROWS), Board("ab", [1, 2, 1], [(0, 1, "b"), *ARROWS[1:]])):
            self.assert_equal(plan, Plan(board, 1, FIRSTS, MOVES, NEXTS), False)
        board = Board("a", [1], [(0, 0, "")])
        self.assert_equal(Plan(board, 1, [0], [[0]], [[0]]), Plan(board, 2, [0], [[None]], [[0]]), False)
        self.assert_equal(Plan(board, 1, [0], [[0]], [[0]]), Plan(board, 1, [0], [[0]] * 2, [[0]] * 2), False)

    def test_the_hands_of_equal_tables(self):
        board = Board("a", [1], [(0, 0, "")])
        one = Plan(board, 1, [0], [[0]], [[0]])
        other = Plan(board.turned(), 2, [0], [[0]], [[0]])
        self.assert_equal(one, other, False)

    def test_other_values(self):
        plan = Plan(BOARD, 1, FIRSTS, MOVES, NEXTS)
        for other in (None, 1, True, "", repr(plan), FIRSTS, MOVES, NEXTS, (FIRSTS, MOVES, NEXTS), BOARD, object(), Plan):
            with self.subTest(other=other):
                self.assert_equal(plan, other, False)


class PlanTableTest(unittest.TestCase):
    def test_small(self):
        self.assertEqual(plan_table(Plan(BOARD, 1, FIRSTS, MOVES, NEXTS)), "  0:   0   .   4\n  1:   5   .   4\n")
        self.assertEqual(plan_table(plan=Plan(BOARD, 2, [0] * 3, [[None, 3, None]], [[0] * 6])), "  0:   .   3   .\n")

    def test_two_digits(self):
        board = Board("a", [1, 2], [(0, 0, "")] * 79 + [(1, 1, "")])
        moves = [[note + 40, None] for note in range(24)]
        plan = Plan(board, 1, [0, 0], moves, [[0] * 80] * 24)
        lines = plan_table(plan).split("\n")
        self.assertEqual((lines[0], lines[9], lines[10]), ("  0:  40   .", "  9:  49   .", " 10:  50   ."))
        self.assertEqual((lines[23], lines[24], len(lines)), (" 23:  63   .", "", 25))

    def test_many(self):
        random = Random("tables of plans")
        for notes in range(1, 25):
            plan = any_plan(random, any_board(random, "a", 12, 80), random.choice((1, 2)), notes)
            lines = []
            for note, row in enumerate(plan.moves()):
                words = [str(note).rjust(3) + ":", *["." if move is None else str(move) for move in row]]
                lines.append(words[0] + "".join(word.rjust(4) for word in words[1:]) + "\n")
            self.assertEqual(plan_table(plan), "".join(lines))

    def test_the_helper_agrees_with_the_board(self):
        self.assertEqual([leaving_of(BOARD, place) for place in range(3)], [BOARD.leaving(place) for place in range(3)])


if __name__ == "__main__":
    unittest.main()
