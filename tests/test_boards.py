import unittest
from itertools import product
from random import Random

from relitgoals.boards import Board, side_by_side
from relitgoals.errors import DeadEnd, InvalidArrow, InvalidLamps, InvalidOwner, InvalidPlace, LampsDiffer, TooMany
from tests.helpers import LAMPS, NO_HANDS, NO_NUMBERS, NO_STRINGS, WRONG_STRINGS, EqualCase, any_board, leaving_of, same_values

OWNERS = [1, 2, 2]
ARROWS = [(0, 1, "a"), (1, 2, ""), (2, 0, "ab"), (0, 0, "b"), (2, 0, "ab")]
NO_SETS = (*NO_STRINGS, *WRONG_STRINGS, "c", "abc")
NO_PLACES = (*NO_NUMBERS, 3, 4, 12, 999999999)


def wrong_arrows():
    """Values that are no arrows of a board with the lamps ab and three places."""
    yield from (None, True, False, 0, 1, "", "ab", "0>1", (), (0,), (0, 1), (0, 1, "a", "b"), (0, 1, "a", None))
    yield from ([], [0, 1, "a"], [0, 1], ((0, 1, "a"),), [(0, 1, "a")], ((0, 1), "a"), ("a", 0, 1))
    yield from ((place, 1, "a") for place in NO_PLACES)
    yield from ((0, place, "a") for place in NO_PLACES)
    yield from ((0, 1, lit) for lit in NO_SETS)


def ring_of(places, arrows, lamps="ab", lit=""):
    """A board with so many places and arrows; all arrows lead on to the next place."""
    return Board(lamps, [1] * places, [(at % places, (at + 1) % places, lit) for at in range(arrows)])


class BoardCase(unittest.TestCase):
    def assert_raises(self, error, attribute, value, call, *args):
        with self.assertRaises(error) as caught:
            call(*args)
        found = getattr(caught.exception, attribute)
        self.assertTrue(same_values(found, value), (found, value))


class MadeTest(BoardCase):
    def test_what_it_has(self):
        board = Board("ab", OWNERS, ARROWS)
        self.assertEqual((board.lamps, board.places, len(board)), ("ab", 3, 5))
        self.assertEqual((board.owners(), board.arrows()), (OWNERS, ARROWS))
        self.assertEqual([board.leaving(place) for place in range(3)], [[0, 3], [1], [2, 4]])
        self.assertEqual(repr(board), "Board(3 places, 5 arrows)")
        self.assertEqual((Board.PLACES, Board.ARROWS), (12, 80))
        self.assertEqual((board.PLACES, board.ARROWS), (12, 80))

    def test_repr_for_any_numbers(self):
        self.assertEqual(repr(Board("a", [2], [(0, 0, "")])), "Board(1 places, 1 arrows)")
        self.assertEqual(repr(ring_of(12, 80)), "Board(12 places, 80 arrows)")

    def test_tuples_and_names(self):
        board = Board(arrows=tuple(ARROWS), owners=tuple(OWNERS), lamps="ab")
        self.assertEqual((board.owners(), board.arrows()), (OWNERS, ARROWS))
        self.assertIs(type(board.owners()), list)
        self.assertIs(type(board.arrows()), list)
        self.assertEqual(board, Board("ab", OWNERS, ARROWS))
        self.assertEqual(board.leaving(place=2), [2, 4])

    def test_many_boards(self):
        random = Random("boards")
        for lamps in LAMPS:
            for places in range(1, 13):
                board = any_board(random, lamps, places, random.randint(places, 80))
                with self.subTest(board.arrows()):
                    for place in range(places):
                        self.assertEqual(board.leaving(place), leaving_of(board, place))
                    copy = Board(board.lamps, board.owners(), board.arrows())
                    self.assertEqual((copy.lamps, copy.places, len(copy)), (lamps, places, len(board.arrows())))
                    self.assertEqual(copy, board)

    def test_lists_that_are_changed_behind_the_call(self):
        owners, arrows = list(OWNERS), list(ARROWS)
        board = Board("ab", owners, arrows)
        self.assertEqual((owners, arrows), (OWNERS, ARROWS))
        owners[0] = 2
        owners.append(1)
        arrows[0] = (1, 1, "")
        arrows.pop()
        self.assertEqual((board.owners(), board.arrows(), board.leaving(0)), (OWNERS, ARROWS, [0, 3]))

    def test_returned_lists_are_new(self):
        board = Board("ab", OWNERS, ARROWS)
        for call in (board.owners, board.arrows, lambda: board.leaving(0)):
            expected, changed = call(), call()
            self.assertIsNot(expected, changed)
            changed[0] = None
            changed.append(7)
            self.assertEqual(call(), expected)

    def test_boards_never_change(self):
        board = Board("ab", OWNERS, ARROWS)
        for name in ("lamps", "places"):
            with self.assertRaises(AttributeError):
                setattr(board, name, 1)
        board.with_arrow((0, 2, "b"))
        board.without_arrow(0)
        board.turned()
        board + board
        side_by_side(board, board, board)
        self.assertEqual((board.lamps, board.owners(), board.arrows()), ("ab", OWNERS, ARROWS))

    def test_invalid_place(self):
        board = Board("ab", OWNERS, ARROWS)
        for place in NO_PLACES:
            with self.subTest(place=place):
                self.assert_raises(InvalidPlace, "given", place, board.leaving, place)


class ErrorsTest(BoardCase):
    def test_invalid_lamps_come_first(self):
        for lamps in (*NO_STRINGS, *WRONG_STRINGS, "", "abcde"):
            for owners, arrows in ((OWNERS, ARROWS), ([], []), ([3], [None]), ([1], [])):
                with self.subTest(lamps=lamps, owners=owners):
                    self.assert_raises(InvalidLamps, "given", lamps, Board, lamps, owners, arrows)

    def test_a_wrong_owner_at_each_place(self):
        for many in (1, 3, 12):
            for at in range(many):
                for wrong in NO_HANDS:
                    owners = [1] * many
                    owners[at] = wrong
                    with self.subTest(owners):
                        self.assert_raises(InvalidOwner, "index", at, Board, "ab", owners, [(0, 0, "")])
                        self.assert_raises(InvalidOwner, "index", at, Board, "ab", tuple(owners), [None])

    def test_numbers_of_owners(self):
        self.assert_raises(InvalidOwner, "index", 0, Board, "ab", [], [])
        self.assert_raises(InvalidOwner, "index", 0, Board, "ab", (), [(0, 0, "")])
        self.assertEqual(ring_of(1, 1).places, 1)
        self.assertEqual(ring_of(12, 12).places, 12)
        for many in (13, 14, 40, 400):
            self.assert_raises(InvalidOwner, "index", 12, Board, "ab", [2] * many, [])
        self.assert_raises(InvalidOwner, "index", 12, Board, "ab", [2] * 12 + [None], [])
        self.assert_raises(InvalidOwner, "index", 11, Board, "ab", [2] * 11 + [None] * 2, [])

    def test_a_wrong_arrow_at_each_place(self):
        for wrong in wrong_arrows():
            for at in range(len(ARROWS)):
                arrows = list(ARROWS)
                arrows[at] = wrong
                with self.subTest(arrows):
                    self.assert_raises(InvalidArrow, "index", at, Board, "ab", OWNERS, arrows)
                    self.assert_raises(InvalidArrow, "index", at, Board, "ab", tuple(OWNERS), tuple(arrows))
            self.assert_raises(InvalidArrow, "index", 0, Board, "ab", OWNERS, [wrong, wrong])

    def test_numbers_of_arrows(self):
        rows = [(0, 0, "")] * 80
        self.assertEqual(len(Board("a", [1], rows)), 80)
        for more in ([(0, 0, "")], [None], [(0, 0, "")] * 320):
            self.assert_raises(InvalidArrow, "index", 80, Board, "a", [1], rows + more)
        self.assert_raises(InvalidArrow, "index", 79, Board, "a", [1], rows[:79] + [None, None])
        self.assertEqual(ring_of(12, 80).arrows()[79], (7, 8, ""))

    def test_dead_ends(self):
        self.assert_raises(DeadEnd, "origin", 0, Board, "ab", [1], [])
        self.assert_raises(DeadEnd, "origin", 0, Board, "ab", OWNERS, [])
        for at in range(12):
            arrows = [(place, at, "") for place in range(12) if place != at]
            self.assert_raises(DeadEnd, "origin", at, Board, "ab", [1] * 12, arrows)
            if at < 11:
                self.assert_raises(DeadEnd, "origin", at, Board, "ab", [1] * 12, arrows[:-1])

    def test_several_errors(self):
        self.assert_raises(InvalidOwner, "index", 1, Board, "ab", [1, 3, 4], [None])
        self.assert_raises(InvalidOwner, "index", 12, Board, "ab", [1] * 13, [None])
        self.assert_raises(InvalidArrow, "index", 1, Board, "ab", [1, 1], [(0, 0, ""), None, None])
        self.assert_raises(InvalidArrow, "index", 1, Board, "ab", [1, 1], [(0, 0, ""), (0, 2, "")])
        self.assert_raises(InvalidArrow, "index", 80, Board, "ab", [1, 1], [(0, 0, "")] * 81)

    def test_arguments_are_not_changed(self):
        owners, arrows = [1, [2]], [(0, 0, ""), [0, 0, ""]]
        with self.assertRaises(InvalidOwner):
            Board("ab", owners, arrows)
        with self.assertRaises(InvalidArrow):
            Board("ab", [1], arrows)
        self.assertEqual((owners, arrows), ([1, [2]], [(0, 0, ""), [0, 0, ""]]))


class ChangedBoardsTest(BoardCase):
    def setUp(self):
        self.board = Board("ab", OWNERS, ARROWS)

    def test_with_arrow(self):
        for arrow in ((0, 2, "b"), (0, 1, "a"), (2, 2, "")):
            for board in (self.board.with_arrow(arrow), self.board.with_arrow(arrow=arrow)):
                self.assertIs(type(board), Board)
                self.assertEqual((board.lamps, board.owners(), board.arrows()), ("ab", OWNERS, [*ARROWS, arrow]))

    def test_with_wrong_arrows(self):
        for wrong in wrong_arrows():
            with self.subTest(wrong=wrong):
                self.assert_raises(InvalidArrow, "index", 5, self.board.with_arrow, wrong)
        self.assert_raises(InvalidArrow, "index", 80, ring_of(3, 80).with_arrow, (0, 0, ""))
        self.assert_raises(InvalidArrow, "index", 80, ring_of(3, 80).with_arrow, None)
        self.assertEqual(len(ring_of(3, 79).with_arrow((0, 0, ""))), 80)

    def test_without_arrow(self):
        for index in (0, 2, 3, 4):
            for board in (self.board.without_arrow(index), self.board.without_arrow(index=index)):
                self.assertIs(type(board), Board)
                self.assertEqual((board.lamps, board.owners()), ("ab", OWNERS))
                self.assertEqual(board.arrows(), ARROWS[:index] + ARROWS[index + 1:])
        self.assertEqual(ring_of(12, 80).without_arrow(79), ring_of(12, 79))

    def test_without_the_last_arrow_of_a_place(self):
        self.assert_raises(DeadEnd, "origin", 1, self.board.without_arrow, 1)
        self.assert_raises(DeadEnd, "origin", 2, self.board.without_arrow(2).without_arrow, 3)
        for at in range(12):
            self.assert_raises(DeadEnd, "origin", at, ring_of(12, 12).without_arrow, at)
        self.assert_raises(DeadEnd, "origin", 0, ring_of(1, 1).without_arrow, 0)

    def test_without_an_arrow_that_is_not_there(self):
        for index in (*NO_NUMBERS, -3, -5, 5, 6, 80, 999999999, (0, 1, "a"), [0, [1]]):
            with self.subTest(index=index):
                self.assert_raises(InvalidArrow, "index", index, self.board.without_arrow, index)

    def test_turned(self):
        turned = self.board.turned()
        self.assertIs(type(turned), Board)
        self.assertEqual((turned.lamps, turned.owners(), turned.arrows()), ("ab", [2, 1, 1], ARROWS))
        self.assertEqual(turned.turned(), self.board)


class SumTest(BoardCase):
    def test_two_boards(self):
        one, other = Board("ab", OWNERS, ARROWS), Board("ab", [2, 1], [(1, 0, "a"), (0, 0, ""), (1, 0, "a")])
        total = one + other
        self.assertIs(type(total), Board)
        self.assertEqual((total.lamps, total.owners()), ("ab", [1, 2, 2, 2, 1]))
        self.assertEqual(total.arrows(), [*ARROWS, (4, 3, "a"), (3, 3, ""), (4, 3, "a")])
        total = other + one
        self.assertEqual(total.owners(), [2, 1, 1, 2, 2])
        self.assertEqual(total.arrows()[3:], [(2, 3, "a"), (3, 4, ""), (4, 2, "ab"), (2, 2, "b"), (4, 2, "ab")])

    def test_one_to_four_boards(self):
        random = Random("sums")
        for many in (1, 2, 3, 4) * 10:
            boards = [any_board(random, "bx", places, random.randint(places, 20)) for places in random.choices((1, 2, 3), k=many)]
            total = side_by_side(*boards)
            first, owners, arrows = 0, [], []
            for board in boards:
                owners.extend(board.owners())
                arrows.extend((first + origin, first + goal, lit) for origin, goal, lit in board.arrows())
                first += board.places
            self.assertIs(type(total), Board)
            self.assertEqual((total.lamps, total.owners(), total.arrows()), ("bx", owners, arrows))

    def test_as_many_as_there_may_be(self):
        total = ring_of(5, 40) + ring_of(7, 40)
        self.assertEqual((total.places, len(total)), (12, 80))
        total = side_by_side(ring_of(3, 20), ring_of(3, 20), ring_of(3, 20), ring_of(3, 20))
        self.assertEqual((total.places, len(total)), (12, 80))

    def assert_sum_raises(self, error, most, *boards):
        def added():
            return sum(boards[1:], boards[0])

        for call in (added, lambda: side_by_side(*boards)):
            if error == LampsDiffer:
                with self.assertRaises(LampsDiffer):
                    call()
            else:
                self.assert_raises(error, "most", most, call)

    def test_too_many(self):
        self.assert_sum_raises(TooMany, 12, ring_of(12, 12), ring_of(1, 1))
        self.assert_sum_raises(TooMany, 12, ring_of(1, 1), ring_of(12, 12))
        self.assert_sum_raises(TooMany, 80, ring_of(1, 80), ring_of(1, 1))
        self.assert_sum_raises(TooMany, 80, ring_of(1, 1), ring_of(1, 80))
        self.assert_sum_raises(TooMany, 12, ring_of(7, 41), ring_of(6, 40))
        self.assert_sum_raises(TooMany, 80, ring_of(6, 41), ring_of(6, 40))

    def test_too_many_of_several(self):
        self.assert_sum_raises(TooMany, 12, ring_of(4, 4), ring_of(4, 4), ring_of(5, 5))
        self.assert_sum_raises(TooMany, 80, ring_of(4, 30), ring_of(4, 30), ring_of(4, 21))
        self.assert_sum_raises(TooMany, 12, *[ring_of(4, 20)] * 4)
        self.assert_sum_raises(TooMany, 80, *[ring_of(3, 21)] * 4)
        self.assert_sum_raises(TooMany, 12, *[ring_of(6, 40)] * 3)

    def test_lamps_differ(self):
        for one, other in (("ab", "abc"), ("abc", "ab"), ("a", "b")):
            for places, arrows in ((1, 1), (12, 12), (12, 80), (1, 80)):
                boards = [ring_of(places, arrows, one), ring_of(places, arrows, other)]
                self.assert_sum_raises(LampsDiffer, None, *boards)
        self.assert_sum_raises(LampsDiffer, None, ring_of(1, 1), ring_of(1, 1), ring_of(12, 80, "a"))
        self.assert_sum_raises(LampsDiffer, None, ring_of(1, 1), ring_of(1, 1), ring_of(1, 1), ring_of(12, 80, "abc"))

    def test_from_left_to_right(self):
        # The first two boards are added first, so that the third one is not looked at.
        self.assert_sum_raises(TooMany, 12, ring_of(12, 12), ring_of(1, 1), ring_of(1, 1, "a"))
        self.assert_sum_raises(TooMany, 80, ring_of(1, 80), ring_of(1, 1), ring_of(12, 12))


class EqualTest(EqualCase):
    def test_equal(self):
        boards = [Board("ab", OWNERS, ARROWS), Board("ab", tuple(OWNERS), tuple(ARROWS)),
                  Board("ab", OWNERS, ARROWS[:-1]).with_arrow(ARROWS[-1])]
        for one, other in product(boards, repeat=2):
            self.assert_equal(one, other, True)

    def test_not_equal(self):
        board = Board("ab", OWNERS, ARROWS)
        self.assert_equal(board, Board("abc", OWNERS, ARROWS), False)
        self.assert_equal(board, Board("ab", [1, 2, 1], ARROWS), False)
        self.assert_equal(board, Board("ab", OWNERS + [1], ARROWS + [(3, 3, "")]), False)
        self.assert_equal(board, Board("ab", OWNERS, ARROWS[::-1]), False)
        self.assert_equal(board, Board("ab", OWNERS, ARROWS[:-1]), False)
        self.assert_equal(board, Board("ab", OWNERS, [(0, 1, "b"), *ARROWS[1:]]), False)
        self.assert_equal(Board("a", [1], [(0, 0, "")]), Board("a", [1], [(0, 0, "")] * 2), False)

    def test_other_values(self):
        board = Board("ab", OWNERS, ARROWS)
        for other in (None, 0, True, "", repr(board), "ab", OWNERS, ARROWS, tuple(ARROWS), {}, object(), Board):
            with self.subTest(other=other):
                self.assert_equal(board, other, False)


if __name__ == "__main__":
    unittest.main()
