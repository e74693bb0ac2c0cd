import unittest
from functools import cache
from itertools import chain, combinations
from random import Random

from relitgoals.boards import Board, ranks
from relitgoals.errors import InvalidHand, InvalidPlace
from tests.helpers import NO_HANDS, NO_NUMBERS, any_board, leaving_of, same_values


def expected_ranks(board, hand, places):
    """By the words of the document: who arrives behind at most so many arrows, arrow by arrow."""
    arrows, owners = board.arrows(), board.owners()

    @cache
    def arrives(place, many):
        if place in places:
            return True
        if many == 0:
            return False
        ahead = [arrives(arrows[number][1], many - 1) for number in leaving_of(board, place)]
        return any(ahead) if owners[place] == hand else all(ahead)

    def rank(place):
        return next((many for many in range(2 * len(owners) + 1) if arrives(place, many)), None)

    return [rank(place) for place in range(len(owners))]


class RanksTest(unittest.TestCase):
    def test_all_places_of_small_boards(self):
        random = Random("ranks")
        for size in (1, 2, 3, 4) * 8:
            board = any_board(random, "ab", size, random.randint(size, 3 * size))
            for places in chain.from_iterable(combinations(range(size), many) for many in range(size + 1)):
                for hand in (1, 2):
                    with self.subTest(board.arrows(), owners=board.owners(), hand=hand, places=places):
                        self.assertEqual(ranks(board, hand, list(places)), expected_ranks(board, hand, places))

    def test_large_boards(self):
        random = Random("large ranks")
        for size in (8, 10, 12) * 25:
            board = any_board(random, "ab", size, random.randint(size, 3 * size))
            places = random.choices(range(size), k=random.randint(1, 3))
            for hand in (1, 2):
                with self.subTest(board.arrows(), owners=board.owners(), hand=hand, places=places):
                    self.assertEqual(ranks(board, hand, places), expected_ranks(board, hand, tuple(places)))

    def test_a_long_way(self):
        board = Board("a", [1, 2] * 6, [(at, (at + 1) % 12, "") for at in range(12)])
        for hand in (1, 2):
            self.assertEqual(ranks(board, hand, [11]), [11, 10, 9, 8, 7, 6, 5, 4, 3, 2, 1, 0])
            self.assertEqual(ranks(board, hand, [0]), [0, 11, 10, 9, 8, 7, 6, 5, 4, 3, 2, 1])

    def test_the_owner_chooses_and_the_other_one_delays(self):
        arrows = [(0, 1, ""), (0, 2, ""), (1, 2, ""), (2, 2, "")]
        self.assertEqual(ranks(Board("a", [1, 1, 1], arrows), 1, [2]), [1, 1, 0])
        self.assertEqual(ranks(Board("a", [2, 1, 1], arrows), 1, [2]), [2, 1, 0])
        self.assertEqual(ranks(Board("a", [2, 1, 1], arrows + [(0, 0, "")]), 1, [2]), [None, 1, 0])
        self.assertEqual(ranks(Board("a", [2, 1, 1], arrows + [(0, 0, "")]), 2, [2]), [1, 1, 0])

    def test_no_places_and_repeats(self):
        board = Board("a", [1, 2], [(0, 1, ""), (1, 0, ""), (1, 1, "")])
        for hand in (1, 2):
            self.assertEqual(ranks(board, hand, []), [None, None])
            self.assertEqual(ranks(board, hand, ()), [None, None])
            self.assertEqual(ranks(board, hand, [1, 1, 1]), [1, 0])
            self.assertEqual(ranks(board, hand, [0, 1, 0]), [0, 0])
            self.assertEqual(ranks(board, hand, [1] * 400), [1, 0])
        self.assertEqual(ranks(board, 1, [0, 0]), [0, None])
        self.assertEqual(ranks(hand=2, places=(0,), board=board), [0, 1])

    def test_invalid_hand_comes_first(self):
        board = Board("a", [1, 2], [(0, 1, ""), (1, 0, "")])
        for hand in NO_HANDS:
            for places in ([], [0], [None]):
                with self.subTest(hand=hand, places=places):
                    with self.assertRaises(InvalidHand) as caught:
                        ranks(board, hand, places)
                    self.assertTrue(same_values(caught.exception.given, hand))

    def test_a_wrong_place_at_each_index(self):
        board = Board("a", [1, 2], [(0, 1, ""), (1, 0, "")])
        for wrong in (*NO_NUMBERS, 2, 12, 999999999):
            for at in range(3):
                places = [0, 1, 0]
                places[at] = wrong
                with self.subTest(places):
                    with self.assertRaises(InvalidPlace) as caught:
                        ranks(board, 1, places)
                    self.assertTrue(same_values(caught.exception.given, wrong))
        with self.assertRaises(InvalidPlace) as caught:
            ranks(board, 2, [1, "x", None, 2])
        self.assertEqual(caught.exception.given, "x")

    def test_arguments_are_not_changed_and_lists_are_new(self):
        board = Board("a", [1, 2], [(0, 1, ""), (1, 0, "")])
        places = [1, 1]
        found = ranks(board, 1, places)
        found.append(7)
        self.assertEqual((places, ranks(board, 1, places)), ([1, 1], [1, 0]))


if __name__ == "__main__":
    unittest.main()
