import unittest
from random import Random

from relitgoals.boards import Board
from relitgoals.errors import BoardsDiffer, InvalidHand, InvalidPlace
from relitgoals.plans import Plan
from relitgoals.walks import Drive, Walk
from tests.helpers import NO_NUMBERS, EqualCase, any_board, any_plan, same_values

BOARD = Board("ab", [1, 2], [(0, 1, "a"), (1, 0, ""), (1, 0, "b"), (0, 0, "")])
ONE = Plan(BOARD, 1, [0, 0], [[0, None]], [[0] * 4])
TWO = Plan(BOARD, 2, [0, 1], [[None, 1], [None, 2]], [[0, 1, 0, 0], [1, 0, 0, 1]])
OTHER_BOARD = BOARD.with_arrow((0, 0, ""))


def moments(one, two, place):
    """The first moments of the walk that follows two plans, and its first arrows, by the words of the document."""
    arrows, owners, tables = one.board.arrows(), one.board.owners(), (one.moves(), two.moves())
    states, numbers = [(place, one.firsts()[place], two.firsts()[place])], []
    while states[-1] not in states[:-1]:
        here, *notes = states[-1]
        hand = owners[here] - 1
        number = tables[hand][notes[hand]][here]
        numbers.append(number)
        states.append((arrows[number][1], one.nexts()[notes[0]][number], two.nexts()[notes[1]][number]))
    return states, numbers


class DriveTest(EqualCase):
    def assert_right(self, one, two, place):
        drive = Drive(one, two, place)
        states, numbers = moments(one, two, place)
        begin = states.index(states[-1])
        self.assertEqual((drive.lead(), drive.ring()), (numbers[:begin], numbers[begin:]))
        self.assertEqual((drive.place, drive.board, len(drive)), (place, one.board, len(numbers) - begin))
        self.assertIs(drive.follows(one), True)
        self.assertIs(drive.follows(two), True)
        kept = "".join(sorted({lamp for number in drive.ring() for lamp in one.board.arrows()[number][2]}))
        self.assertEqual(drive.kept(), kept)
        text = f"{begin} arrows, then {len(drive)} again and again, keeps {kept or '-'}, notes {one.notes} and {two.notes}"
        self.assertEqual(drive.told(), text)
        return len(numbers)

    def test_many(self):
        random = Random("drives")
        lengths = []
        for _ in range(250):
            board = any_board(random, "abc", random.randint(1, 12), random.randint(12, 80))
            one, two = any_plan(random, board, 1, random.randint(1, 24)), any_plan(random, board, 2, random.randint(1, 24))
            lengths.extend(self.assert_right(one, two, place) for place in range(board.places))
        self.assertGreater(max(lengths), 60)

    def test_many_notes_on_both_sides(self):
        # One counts to 24 and two to 23, so that the notes come again only behind 24 * 23 arrows.
        board = Board("a", [1, 2], [(0, 1, ""), (1, 0, "a"), (1, 1, "")])
        one = Plan(board, 1, [0, 0], [[0, None]] * 24, [[(note + 1) % 24] * 3 for note in range(24)])
        two = Plan(board, 2, [0, 0], [[None, 2]] * 23, [[(note + 1) % 23] * 3 for note in range(23)])
        drive = Drive(one, two, 0)
        self.assertEqual((len(drive.lead()), len(drive)), (1, 24 * 23))
        self.assert_right(one, two, 0)
        self.assert_right(one, two, 1)
        self.assertEqual(drive.told(), "1 arrows, then 552 again and again, keeps -, notes 24 and 23")

    def test_example(self):
        drive = Drive(ONE, TWO, 0)
        # The notes of hand two are 0, 0, 1, 1, 0.
        self.assertEqual((drive.lead(), drive.ring()), ([], [0, 1, 0, 2]))
        self.assertEqual(drive.told(), "0 arrows, then 4 again and again, keeps ab, notes 1 and 2")
        drive = Drive(place=1, two=TWO, one=ONE)
        self.assertEqual((drive.lead(), drive.ring(), drive.place), ([], [2, 0, 1, 0], 1))

    def test_what_it_has(self):
        drive = Drive(ONE, TWO, 0)
        self.assertIsInstance(drive, Walk)
        self.assertEqual((drive.one, drive.two, drive.board, drive.place), (ONE, TWO, BOARD, 0))
        for name in ("one", "two", "board", "place"):
            with self.assertRaises(AttributeError):
                setattr(drive, name, 1)
        for name in ("one", "two", "told", "__init__"):
            self.assertIn(name, vars(Drive))

    def test_lists_are_new(self):
        drive = Drive(ONE, TWO, 0)
        drive.lead().append(3)
        drive.ring().clear()
        self.assertEqual((drive.lead(), drive.ring()), ([], [0, 1, 0, 2]))

    def test_equal_to_walks(self):
        drive = Drive(ONE, TWO, 0)
        walk = Walk(BOARD, 0, [], [0, 1, 0, 2])
        for other in (walk, Drive(ONE, TWO, 0)):
            self.assert_equal(drive, other, True)
        others = (Walk(BOARD, 0, [0], [1, 0, 2, 0]), Walk(BOARD, 0, [], [0, 1]), Drive(ONE, TWO, 1), ONE, None, 0, "")
        for other in others:
            self.assert_equal(drive, other, False)

    def test_equal_walks_of_unlike_plans(self):
        # The second note of this plan is never in use.
        longer = Plan(BOARD, 1, [0, 0], [[0, None], [3, None]], [[0] * 4, [1] * 4])
        self.assertEqual(Drive(longer, TWO, 0), Drive(ONE, TWO, 0))
        self.assertNotEqual(Drive(longer, TWO, 0).told(), Drive(ONE, TWO, 0).told())


class ErrorsTest(unittest.TestCase):
    def assert_hand(self, hand, one, two, place):
        with self.assertRaises(InvalidHand) as caught:
            Drive(one, two, place)
        self.assertTrue(same_values(caught.exception.given, hand))

    def test_wrong_hands(self):
        other = Plan(OTHER_BOARD, 2, [0, 0], [[None, 1]], [[0] * 5])
        for place in (0, 7, None):
            for two in (ONE, TWO, other):
                self.assert_hand(2, TWO, two, place)
            self.assert_hand(2, other, TWO, place)
            self.assert_hand(1, ONE, ONE, place)
            self.assert_hand(1, ONE, Plan(OTHER_BOARD, 1, [0, 0], [[0, None]], [[0] * 5]), place)

    def test_boards_differ(self):
        other = Plan(OTHER_BOARD, 2, [0, 0], [[None, 1]], [[0] * 5])
        for place in (0, 7, None, True):
            with self.assertRaises(BoardsDiffer):
                Drive(ONE, other, place)

    def test_equal_boards(self):
        copy = Board(BOARD.lamps, BOARD.owners(), BOARD.arrows())
        two = Plan(copy, 2, TWO.firsts(), TWO.moves(), TWO.nexts())
        self.assertEqual(Drive(ONE, two, 0), Drive(ONE, TWO, 0))

    def test_invalid_place(self):
        for place in (*NO_NUMBERS, 2, 12, 999999999):
            with self.subTest(place=place):
                with self.assertRaises(InvalidPlace) as caught:
                    Drive(ONE, TWO, place)
                self.assertTrue(same_values(caught.exception.given, place))


if __name__ == "__main__":
    unittest.main()
