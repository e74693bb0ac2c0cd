import unittest
from itertools import product
from random import Random

from relitgoals.errors import DeadEnd, InvalidArrow, InvalidOwner
from relitgoals.solving import number_winners
from tests.helpers import NO_HANDS, NO_NUMBERS, same_values, spread

OWNERS = [1, 2, 1]
ARROWS = [(0, 1, 4), (1, 2, 3), (2, 0, 0), (1, 1, 99), (2, 2, 7)]


def places_ahead(arrows, place):
    return spread([place], lambda here: [end for origin, end, number in arrows if origin == here])


def is_bad_ring_ahead(arrows, place):
    """Whether a walk from a place can come again and again to an odd number and to no greater one."""
    near = places_ahead(arrows, place)
    for origin, end, number in arrows:
        low = [arrow for arrow in arrows if arrow[2] <= number]
        if number % 2 and origin in near and origin in places_ahead(low, end):
            return True
    return False


def searched_winners(owners, arrows):
    """The winners, by trying each choice of one arrow for each place of hand one."""
    rows = [[arrow for arrow in arrows if arrow[0] == place] for place in range(len(owners))]
    won = set()
    for chosen in product(*[row if owner == 1 else [None] for row, owner in zip(rows, owners)]):
        left = [arrow for row, one in zip(rows, chosen) for arrow in (row if one is None else [one])]
        won.update(place for place in range(len(owners)) if not is_bad_ring_ahead(left, place))
    return [1 if place in won else 2 for place in range(len(owners))]


def any_game(random, places, arrows, most):
    origins = [*range(places), *[random.randrange(places) for _ in range(arrows - places)]]
    random.shuffle(origins)
    owners = [random.choice((1, 2)) for _ in range(places)]
    return owners, [(origin, random.randrange(places), random.randint(0, most)) for origin in origins]


def moved(arrows, by):
    return [(origin + by, end + by, number) for origin, end, number in arrows]


class GamesTest(unittest.TestCase):
    def test_small_games_by_search(self):
        random = Random("numbers")
        won = {1: 0, 2: 0}
        for _ in range(700):
            places = random.randint(1, 5)
            owners, arrows = any_game(random, places, random.randint(places, 3 * places), random.choice((1, 2, 3, 5, 99)))
            with self.subTest(arrows, owners=owners):
                found = number_winners(owners, arrows)
                self.assertEqual(found, searched_winners(owners, arrows))
                for hand in won:
                    won[hand] += found.count(hand)
        self.assertGreater(min(won.values()), 500)

    def test_all_games_with_two_places_and_small_numbers(self):
        rows = list(product((0, 1), (0, 1, 2)))
        for owners in product((1, 2), repeat=2):
            for first, second, third in product(rows, rows, rows):
                arrows = [(0, *first), (1, *second), (0, *third)]
                self.assertEqual(number_winners(owners, arrows), searched_winners(owners, arrows))

    def test_owners_exchanged_and_numbers_raised(self):
        random = Random("raised")
        for _ in range(60):
            owners, arrows = any_game(random, 30, 90, 98)
            other = number_winners([3 - owner for owner in owners], [(a, b, number + 1) for a, b, number in arrows])
            self.assertEqual([3 - hand for hand in other], number_winners(owners, arrows))

    def test_a_large_game_of_small_ones(self):
        random = Random("large of small")
        owners, arrows, expected = [], [], []
        for at in range(75):
            hands, rows = any_game(random, 4, 10, 99)
            arrows += moved(rows, len(owners))
            owners += hands
            expected += searched_winners(hands, rows)
        arrows += [random.choice(arrows) for _ in range(2000 - len(arrows))]
        random.shuffle(arrows)
        self.assertEqual((len(owners), len(arrows)), (300, 2000))
        self.assertEqual(number_winners(owners, arrows), expected)

    def test_large_games(self):
        random = Random("large")
        for near in (2, 5, 300):
            origins = [*range(300), *[random.randrange(300) for _ in range(1700)]]
            arrows = [(origin, (origin + random.randint(-near, near)) % 300, random.randint(0, 98)) for origin in origins]
            owners = [random.choice((1, 2)) for _ in range(300)]
            found = number_winners(owners, arrows)
            other = number_winners([3 - owner for owner in owners], [(a, b, number + 1) for a, b, number in arrows])
            self.assertEqual([3 - hand for hand in other], found)
            # No hand can leave the places that the other one wins.
            for place, owner in enumerate(owners):
                ahead = {found[end] for origin, end, number in arrows if origin == place}
                self.assertIn(found[place], ahead)
                self.assertTrue(owner == found[place] or ahead == {found[place]})

    def test_a_long_line(self):
        # Each place goes on or stays; the number of staying is the number of the place.
        for even in (0, 1):
            arrows = [(at, min(at + 1, 299), at // 3 // 2 * 2 + even) for at in range(300)]
            self.assertEqual(number_winners([1, 2] * 150, arrows), [1 + even] * 300)
        arrows = [(at, end, at // 3) for at in range(300) for end in (at, min(at + 1, 299))]
        self.assertEqual(number_winners([1] * 300, arrows), [1] * 297 + [2] * 3)
        self.assertEqual(number_winners([2] * 300, arrows), [2] * 300)


class FormTest(unittest.TestCase):
    def test_example(self):
        self.assertEqual(number_winners(OWNERS, ARROWS), searched_winners(OWNERS, ARROWS))
        self.assertEqual(number_winners(OWNERS, ARROWS), [2, 2, 2])
        self.assertEqual(number_winners([1, 1], [(0, 0, 1), (0, 1, 1), (1, 1, 0)]), [1, 1])
        self.assertEqual(number_winners([2, 1], [(0, 0, 1), (0, 1, 1), (1, 1, 0)]), [2, 1])

    def test_only_numbers_without_end_count(self):
        self.assertEqual(number_winners([1, 1], [(0, 1, 99), (1, 1, 0)]), [1, 1])
        self.assertEqual(number_winners([1, 1], [(0, 1, 98), (1, 1, 1)]), [2, 2])

    def test_no_owners(self):
        for empty in ([], ()):
            self.assertEqual(number_winners(empty, empty), [])
            for arrows in ([(0, 0, 0)], [(0, 0, 0), None], ["x"], ((0, 0, 0),)):
                with self.assertRaises(InvalidArrow) as caught:
                    number_winners(empty, arrows)
                self.assertEqual(caught.exception.index, 0)

    def test_tuples_names_and_arguments(self):
        owners, arrows = list(OWNERS), list(ARROWS)
        found = number_winners(arrows=arrows, owners=owners)
        self.assertEqual((owners, arrows), (OWNERS, ARROWS))
        self.assertEqual(number_winners(tuple(OWNERS), tuple(ARROWS)), found)
        self.assertIs(type(found), list)
        found.append(1)
        self.assertEqual(number_winners(OWNERS, ARROWS), found[:-1])

    def test_no_limits_of_boards(self):
        arrows = [(at % 13, at % 13, 2) for at in range(100)]
        self.assertEqual(number_winners([1] * 13, arrows), [1] * 13)
        for number in (0, 1, 98, 99):
            self.assertEqual(number_winners([1], [(0, 0, number)]), [1 + number % 2])


class ErrorsTest(unittest.TestCase):
    def assert_raises(self, error, attribute, value, owners, arrows):
        with self.subTest(owners=owners, arrows=arrows):
            with self.assertRaises(error) as caught:
                number_winners(owners, arrows)
            self.assertTrue(same_values(getattr(caught.exception, attribute), value))

    def test_owners(self):
        for at in range(3):
            for wrong in NO_HANDS:
                self.assert_raises(InvalidOwner, "index", at, [*OWNERS[:at], wrong, *OWNERS[at + 1:]], ARROWS)

    def wrong_arrows(self):
        yield from (None, True, 0, "", "0>1", (), (0, 1), (0, 1, 2, 3), [0, 1, 2], [], ((0, 1, 2),), [(0, 1, 2)])
        for wrong in (*NO_NUMBERS, 999999999):
            yield from ((wrong, 0, 0), (0, wrong, 0), (0, 0, wrong))
        yield from ((3, 0, 0), (0, 3, 0), (12, 0, 0), (0, 0, 100), (0, 0, 101), (0, 0, ""), (0, 0, "a"))

    def test_arrows(self):
        for wrong in self.wrong_arrows():
            for at in range(len(ARROWS)):
                self.assert_raises(InvalidArrow, "index", at, OWNERS, [*ARROWS[:at], wrong, *ARROWS[at + 1:]])
            self.assert_raises(InvalidArrow, "index", 5, OWNERS, [*ARROWS, wrong])

    def test_dead_ends(self):
        for place in range(3):
            rows = [arrow for arrow in ARROWS if arrow[0] != place]
            self.assert_raises(DeadEnd, "origin", place, OWNERS, rows)
        self.assert_raises(DeadEnd, "origin", 0, OWNERS, [])
        self.assert_raises(DeadEnd, "origin", 1, OWNERS, [(0, 1, 0)])

    def test_several_errors(self):
        self.assert_raises(InvalidOwner, "index", 1, [1, 0, 3], [None, (7, 7, 7)])
        self.assert_raises(InvalidArrow, "index", 1, [1, 2], [(0, 0, 0), (0, 2, 0), None])
        self.assert_raises(InvalidOwner, "index", 0, [True], [])
        self.assert_raises(DeadEnd, "origin", 1, [1, 2, 2, 1], [(0, 0, 0), (3, 0, 0)])


if __name__ == "__main__":
    unittest.main()
