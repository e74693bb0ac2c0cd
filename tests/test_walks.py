import unittest
from random import Random

from relitgoals.boards import Board
from relitgoals.errors import BoardsDiffer, InvalidPlace, InvalidWalk, LampsDiffer
from relitgoals.goals import Goal
from relitgoals.plans import Plan
from relitgoals.walks import Walk
from tests.helpers import NO_NUMBERS, EqualCase, any_board, any_plan, goal_of_bits, leaving_of, same_values, sets_of

# 0 and 1 lead in a circle by the arrows 0 and 1; 2 is reached by the arrow 2 and left by the arrow 4.
BOARD = Board("ab", [1, 2, 1], [(0, 1, "a"), (1, 0, ""), (1, 2, "b"), (2, 2, "ab"), (2, 0, "")])
NO_PLACES = (*NO_NUMBERS, 3, 12, 999999999)


def any_way(random, board, place, many):
    """Some numbers of arrows that can be walked from a place, and the place where they end."""
    numbers = []
    for _ in range(many):
        numbers.append(random.choice(leaving_of(board, place)))
        place = board.arrows()[numbers[-1]][1]
    return numbers, place


def any_walk(random, board, place):
    """A lead and a ring from a place: some way on, cut where it comes back to a place where it has been."""
    numbers, _ = any_way(random, board, place, 3 * board.places + 5)
    places = [place, *[board.arrows()[number][1] for number in numbers]]
    pairs = [(one, two) for two in range(1, len(places)) for one in range(two) if places[one] == places[two]]
    begin, end = random.choice(pairs)
    return numbers[:begin], numbers[begin:end]


def follows(board, place, numbers, plan):
    """Whether some arrows follow a plan, by the words of the document."""
    note = plan.firsts()[place]
    moves, nexts, arrows, owners = plan.moves(), plan.nexts(), board.arrows(), board.owners()
    for number in numbers:
        if owners[arrows[number][0]] == plan.hand and moves[note][arrows[number][0]] != number:
            return False
        note = nexts[note][number]
    return True


class WalkCase(unittest.TestCase):
    def assert_wrong(self, index, place, lead, ring, board=BOARD):
        for made in (list, tuple):
            with self.subTest(place=place, lead=lead, ring=ring):
                with self.assertRaises(InvalidWalk) as caught:
                    Walk(board, place, made(lead), made(ring))
                self.assertTrue(same_values(caught.exception.index, index), (caught.exception.index, index))


class MadeTest(WalkCase):
    def test_what_it_has(self):
        walk = Walk(BOARD, 0, [0, 2], [3, 4, 0, 2])
        self.assertEqual((walk.board, walk.place, len(walk)), (BOARD, 0, 4))
        self.assertEqual((walk.lead(), walk.ring(), walk.kept()), ([0, 2], [3, 4, 0, 2], "ab"))

    def test_tuples_and_names(self):
        walk = Walk(ring=(1, 0), lead=(), place=1, board=BOARD)
        self.assertEqual((walk.lead(), walk.ring(), walk.kept(), walk.place), ([], [1, 0], "a", 1))
        self.assertIs(type(walk.lead()), list)
        self.assertIs(type(walk.ring()), list)

    def test_lists_that_are_changed_behind_the_call(self):
        lead, ring = [0, 2], [3]
        walk = Walk(BOARD, 0, lead, ring)
        self.assertEqual((lead, ring), ([0, 2], [3]))
        lead.append(4)
        ring[0] = 4
        self.assertEqual((walk.lead(), walk.ring()), ([0, 2], [3]))
        walk.lead().append(4)
        walk.ring().clear()
        walk.ring()[0] = 7
        self.assertEqual((walk.lead(), walk.ring(), len(walk)), ([0, 2], [3], 1))

    def test_walks_never_change(self):
        walk = Walk(BOARD, 0, [0, 2], [3])
        for name in ("board", "place"):
            with self.assertRaises(AttributeError):
                setattr(walk, name, 1)

    def test_many_walks(self):
        random = Random("walks")
        for _ in range(200):
            lamps = random.choice(("a", "bx", "abcd"))
            board = any_board(random, lamps, random.randint(1, 12), random.randint(12, 80))
            place = random.randrange(board.places)
            lead, ring = any_walk(random, board, place)
            walk = Walk(board, place, lead, ring)
            lit = {lamp for number in ring for lamp in board.arrows()[number][2]}
            kept = "".join(sorted(lit))
            self.assertEqual((walk.place, walk.lead(), walk.ring()), (place, lead, ring))
            self.assertEqual((walk.kept(), len(walk)), (kept, len(ring)))
            text = f"{len(lead)} arrows, then {len(ring)} again and again, keeps {kept or '-'}"
            self.assertEqual(walk.told(), text)
            goal = goal_of_bits(lamps, random.getrandbits(2 ** len(lamps)))
            self.assertEqual(walk.winner(goal), 1 if kept in goal.sets() else 2)

    def test_long_walks(self):
        walk = Walk(BOARD, 0, [0, 1] * 5000, [0, 2, 3, 4] * 3000)
        self.assertEqual((len(walk), len(walk.lead()), walk.kept()), (12000, 10000, "ab"))


class ErrorsTest(WalkCase):
    def test_invalid_place_comes_first(self):
        for place in NO_PLACES:
            for lead, ring in (([], []), ([0], [1, 0]), ([None], [None])):
                with self.subTest(place=place):
                    with self.assertRaises(InvalidPlace) as caught:
                        Walk(BOARD, place, lead, ring)
                    self.assertTrue(same_values(caught.exception.given, place))

    def test_a_wrong_number_at_each_index(self):
        lead, ring = [0, 1, 0, 2], [3, 4, 0, 2]
        places = [0, 1, 0, 1, 2, 2, 0, 1]
        Walk(BOARD, 0, lead, ring)
        for at, place in enumerate(places):
            others = [number for number in range(5) if BOARD.arrows()[number][0] != place]
            for wrong in (*NO_NUMBERS, *others, 5, 80, 999999999):
                items = [*lead, *ring]
                items[at] = wrong
                self.assert_wrong(at, 0, items[:4], items[4:])

    def test_the_first_wrong_item_counts(self):
        self.assert_wrong(0, 0, [1], [None])
        self.assert_wrong(1, 0, [0, 0], [])
        self.assert_wrong(2, 0, [0, 1], [1, 1])
        self.assert_wrong(1, 0, [0], [None])
        self.assert_wrong(1, 0, [0], [0])

    def test_no_ring(self):
        self.assert_wrong(0, 0, [], [])
        self.assert_wrong(1, 0, [0], [])
        self.assert_wrong(2, 0, [0, 1], [])

    def test_a_ring_that_does_not_lead_back(self):
        self.assert_wrong(1, 0, [], [0])
        self.assert_wrong(3, 0, [0, 1], [0])
        self.assert_wrong(2, 0, [0], [2])
        # It leads back to the place where the walk begins, not to the one where the ring begins.
        self.assert_wrong(2, 0, [0], [1])
        self.assert_wrong(5, 1, [1], [0, 2, 3, 3])

    def test_arguments_are_not_changed(self):
        lead, ring = [0, [1]], [[2]]
        with self.assertRaises(InvalidWalk):
            Walk(BOARD, 0, lead, ring)
        self.assertEqual((lead, ring), ([0, [1]], [[2]]))


class WinnerTest(unittest.TestCase):
    def test_each_set(self):
        board = Board("abc", [1], [(0, 0, lit) for lit in sets_of("abc")])
        for number, kept in enumerate(sets_of("abc")):
            walk = Walk(board, 0, [7 - number], [number])
            self.assertEqual(walk.kept(), kept)
            for other in sets_of("abc"):
                self.assertEqual(walk.winner(Goal.of_sets("abc", other)), 1 if other == kept else 2)
                self.assertEqual(walk.winner(goal=~Goal.of_sets("abc", other)), 2 if other == kept else 1)

    def test_only_the_ring_counts(self):
        walk = Walk(BOARD, 0, [0, 2, 4, 0], [1, 0])
        self.assertEqual((walk.kept(), walk.winner(Goal("ab", ("lit", "b")))), ("a", 2))

    def test_lamps_differ(self):
        walk = Walk(BOARD, 0, [], [0, 1])
        for lamps in ("a", "b", "abc", "ac"):
            with self.assertRaises(LampsDiffer):
                walk.winner(Goal.of_sets(lamps))


class ToldTest(unittest.TestCase):
    def test_any_numbers(self):
        self.assertEqual(Walk(BOARD, 0, [0, 2], [3, 3, 3]).told(), "2 arrows, then 3 again and again, keeps ab")
        self.assertEqual(Walk(BOARD, 2, [], [3]).told(), "0 arrows, then 1 again and again, keeps ab")
        self.assertEqual(Walk(BOARD, 1, [1], [0, 1]).told(), "1 arrows, then 2 again and again, keeps a")
        board = Board("xy", [2], [(0, 0, ""), (0, 0, "y")])
        self.assertEqual(Walk(board, 0, [1] * 12, [0]).told(), "12 arrows, then 1 again and again, keeps -")


class FollowsTest(unittest.TestCase):
    def test_many(self):
        random = Random("follows")
        answers = []
        for _ in range(1500):
            board = any_board(random, "ab", random.randint(1, 4), random.randint(4, 7))
            place = random.randrange(board.places)
            plan = any_plan(random, board, random.choice((1, 2)), random.randint(1, 5))
            lead, ring = any_walk(random, board, place)
            expected = follows(board, place, lead + ring * 8, plan)
            self.assertIs(Walk(board, place, lead, ring).follows(plan), expected)
            answers.append(expected)
        self.assertGreater(answers.count(True), 100)
        self.assertGreater(answers.count(False), 100)

    def counter(self, board, last):
        """A plan with 24 notes: behind each arrow comes the next note; at the last note the move is another one."""
        moves = [[0, None]] * 23 + [[last, None]]
        return Plan(board, 1, [0, 0], moves, [[(note + 1) % 24] * 3 for note in range(24)])

    def test_a_note_that_comes_round_after_many_rings(self):
        board = Board("a", [1, 2], [(0, 0, ""), (0, 0, "a"), (1, 0, "")])
        walk = Walk(board, 0, [], [0])
        self.assertIs(walk.follows(self.counter(board, 0)), True)
        self.assertIs(walk.follows(self.counter(board, 1)), False)
        self.assertIs(walk.follows(plan=self.counter(board, 0)), True)
        # With rings of five, the last note comes up in the middle of the fifth one.
        walk = Walk(board, 1, [2], [0] * 5)
        self.assertIs(walk.follows(self.counter(board, 0)), True)
        self.assertIs(walk.follows(self.counter(board, 1)), False)
        # A ring of 24 that has the other arrow in its right place.
        self.assertIs(Walk(board, 0, [], [0] * 23 + [1]).follows(self.counter(board, 1)), True)
        self.assertIs(Walk(board, 0, [0], [0] * 22 + [1, 0]).follows(self.counter(board, 1)), True)
        self.assertIs(Walk(board, 0, [0], [0] * 23 + [1]).follows(self.counter(board, 1)), False)

    def test_the_lead_counts(self):
        board = Board("a", [1], [(0, 0, ""), (0, 0, "a")])
        plan = Plan(board, 1, [0], [[1], [0]], [[1, 1], [1, 1]])
        self.assertIs(Walk(board, 0, [1], [0]).follows(plan), True)
        self.assertIs(Walk(board, 0, [0], [0]).follows(plan), False)
        self.assertIs(Walk(board, 0, [], [0]).follows(plan), False)
        self.assertIs(Walk(board, 0, [], [1]).follows(plan), False)
        self.assertIs(Walk(board, 0, [1, 0, 0], [0, 0]).follows(plan), True)

    def test_the_first_note_of_the_place(self):
        board = Board("a", [1, 1], [(0, 0, ""), (0, 0, "a"), (1, 0, "")])
        plan = Plan(board, 1, [0, 1], [[0, 2], [1, 2]], [[0] * 3, [1] * 3])
        self.assertIs(Walk(board, 0, [], [0]).follows(plan), True)
        self.assertIs(Walk(board, 1, [2], [0]).follows(plan), False)
        self.assertIs(Walk(board, 1, [2], [1]).follows(plan), True)

    def test_a_plan_of_a_hand_without_places(self):
        board = Board("a", [1], [(0, 0, ""), (0, 0, "a")])
        plan = Plan(board, 2, [0], [[None]], [[0, 0]])
        self.assertIs(Walk(board, 0, [0, 1], [1, 0, 0]).follows(plan), True)

    def test_boards_differ(self):
        board = Board("a", [1], [(0, 0, ""), (0, 0, "a")])
        walk = Walk(board, 0, [], [0])
        equal = Board("a", [1], [(0, 0, ""), (0, 0, "a")])
        self.assertIs(walk.follows(Plan(equal, 1, [0], [[0]], [[0, 0]])), True)
        for other in (Board("ab", [1], board.arrows()), board.with_arrow((0, 0, "")), board.without_arrow(1)):
            with self.assertRaises(BoardsDiffer):
                walk.follows(Plan(other, 1, [0], [[0]], [[0] * len(other)]))
        with self.assertRaises(BoardsDiffer):
            walk.follows(Plan(board.turned(), 2, [0], [[0]], [[0, 0]]))


class EqualTest(EqualCase):
    def test_equal(self):
        walk = Walk(BOARD, 0, [0], [1, 0])
        copy = Board(BOARD.lamps, BOARD.owners(), BOARD.arrows())
        self.assert_equal(walk, Walk(copy, 0, (0,), (1, 0)), True)
        self.assert_equal(walk, Walk(walk.board, walk.place, walk.lead(), walk.ring()), True)

    def test_not_equal(self):
        walk = Walk(BOARD, 0, [0], [1, 0])
        # The same arrows in the same order, in another form.
        self.assert_equal(walk, Walk(BOARD, 0, [], [0, 1]), False)
        self.assert_equal(walk, Walk(BOARD, 0, [0], [1, 0, 1, 0]), False)
        self.assert_equal(walk, Walk(BOARD, 0, [0, 1, 0], [1, 0]), False)
        self.assert_equal(walk, Walk(BOARD, 1, [], [1, 0]), False)
        self.assert_equal(walk, Walk(BOARD.turned(), 0, [0], [1, 0]), False)
        self.assert_equal(walk, Walk(BOARD.with_arrow((0, 0, "")), 0, [0], [1, 0]), False)

    def test_the_place_counts(self):
        board = Board("a", [1, 1], [(0, 0, ""), (1, 1, "")])
        self.assert_equal(Walk(board, 0, [], [0]), Walk(board, 1, [], [1]), False)

    def test_other_values(self):
        walk = Walk(BOARD, 0, [0], [1, 0])
        for other in (None, 0, True, "", walk.told(), [0], ([0], [1, 0]), BOARD, object(), Walk):
            with self.subTest(other=other):
                self.assert_equal(walk, other, False)


if __name__ == "__main__":
    unittest.main()
