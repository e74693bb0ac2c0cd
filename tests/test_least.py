import unittest
from random import Random

from relitgoals.errors import LampsDiffer
from relitgoals.goals import Goal
from relitgoals.tellers import Teller, least_teller, wrong_row
from relitgoals.texts import read_goal
from relitgoals.trees import Tree
from tests.helpers import any_teller, goal_of_bits, sets_of, some_goals, spread


def told_step(tree, branch, lit):
    """The step of the least teller in the room of a branch, by the words of [14]; the room is given by its branch."""
    height = max(len(row) for row in tree.branches())
    holds = tree.goal.lamps in tree.goal.sets()
    top = next(number for number in (height - 1, height) if (number % 2 == 0) == holds)
    last = [shown for shown in branch if set(lit) <= set(shown)][-1]
    at = branch.index(last)
    if last == branch[-1]:
        return top - at, branch
    parts = tree.parts(last)
    behind = (parts + parts[:1])[parts.index(branch[at + 1]) + 1]
    return top - at, min(row for row in tree.branches() if row[:at + 2] == branch[:at + 1] + (behind,))


def told_pairs(teller):
    """All pairs (set, greatest number) of what can come without end, found by walking round with a bag."""
    steps, sets = teller.steps(), sets_of(teller.lamps)

    def ahead(room):
        return [step[1] for step in steps[room]]

    def bags_ahead(bag):
        room, lit, greatest = bag
        return [(end, lit | frozenset(more), max(greatest, number)) for more, (number, end) in zip(sets, steps[room])]

    found = set()
    for room in spread([0], ahead):
        bags = spread(bags_ahead((room, frozenset(), 0)), bags_ahead)
        found.update(("".join(sorted(lit)), greatest) for end, lit, greatest in bags if end == room)
    return found


def is_right(teller, goal):
    return all((number % 2 == 0) == (kept in goal.sets()) for kept, number in told_pairs(teller))


def with_step(teller, room, at, step):
    rows = teller.steps()
    rows[room][at] = step
    return Teller(teller.lamps, rows)


class RowCase(unittest.TestCase):
    def assert_wrong(self, teller, goal):
        """A teller is wrong, and a row shows it."""
        row = wrong_row(teller, goal)
        self.assertIs(type(row), tuple)
        lead, ring = row
        self.assertEqual((type(lead), type(ring)), (list, list))
        kept = "".join(sorted(set("".join(ring))))
        self.assertIs(teller.tells(lead, ring), kept not in goal.sets())
        self.assertEqual(wrong_row(teller, goal), row)

    def assert_judged(self, teller, goal):
        """A teller is judged as an independent search judges it; returns whether it is right."""
        right = is_right(teller, goal)
        if right:
            self.assertIsNone(wrong_row(teller, goal))
        else:
            self.assert_wrong(teller, goal)
        return right


class LeastTellerTest(RowCase):
    def test_the_words_of_the_document(self):
        for goal in some_goals():
            with self.subTest(goal.sets()):
                tree = Tree(goal)
                branches = list(tree.branches())
                teller = least_teller(goal)
                self.assertIsInstance(teller, Teller)
                self.assertEqual((teller.lamps, len(teller)), (goal.lamps, len(branches)))
                for branch, row in zip(branches, teller.steps()):
                    expected = [told_step(tree, branch, lit) for lit in sets_of(goal.lamps)]
                    self.assertEqual([(number, branches[room]) for number, room in row], expected)
                self.assertEqual(len(teller.numbers()), tree.height())

    def test_it_is_right(self):
        for goal in some_goals():
            teller = least_teller(goal=goal)
            self.assertIsNone(wrong_row(teller, goal))
            self.assert_wrong(teller, ~goal)

    def test_it_is_right_by_search(self):
        for goal in [*list(some_goals())[:60], *list(some_goals())[60::40]]:
            self.assertTrue(is_right(least_teller(goal), goal))

    def test_examples(self):
        teller = least_teller(read_goal("ab: (a and b)"))
        rows = [[(1, 0), (1, 0), (2, 1), (2, 1)], [(1, 1), (2, 0), (1, 1), (2, 0)]]
        self.assertEqual(teller.steps(), rows)
        self.assertEqual(least_teller(read_goal("a: {a, -}")).steps(), [[(0, 0), (0, 0)]])
        self.assertEqual(least_teller(read_goal("a: {}")).steps(), [[(1, 0), (1, 0)]])
        self.assertEqual(least_teller(read_goal("a: a")).steps(), [[(1, 0), (2, 0)]])
        self.assertEqual(least_teller(read_goal("a: not a")).steps(), [[(0, 0), (1, 0)]])

    def test_equal_goals(self):
        self.assertEqual(least_teller(Goal.of_sets("ab", "ab")), least_teller(read_goal("ab: (a and b)")))


class WrongRowTest(RowCase):
    def test_drawn_tellers(self):
        random = Random("drawn")
        right = 0
        for _ in range(500):
            lamps = random.choice(("a", "a", "bx", "abc"))
            teller = any_teller(random, lamps, random.randint(1, 4), random.choice((1, 2, 3, 99)))
            goal = goal_of_bits(lamps, random.getrandbits(2 ** len(lamps)))
            right += self.assert_judged(teller, goal)
        self.assertGreater(right, 10)

    def test_one_step_bent(self):
        random = Random("bent")
        right = 0
        goals = [goal for goal in some_goals() if len(goal.lamps) < 4]
        for goal in random.sample(goals, 120):
            teller = least_teller(goal)
            for _ in range(3):
                room, at = random.randrange(len(teller)), random.randrange(2 ** len(goal.lamps))
                number, end = teller.steps()[room][at]
                for step in ((number + 1, end), (abs(number - 1), end), (number, random.randrange(len(teller)))):
                    right += self.assert_judged(with_step(teller, room, at, step), goal)
        self.assertGreater(right, 50)

    def test_tellers_of_other_goals(self):
        random = Random("others")
        for _ in range(150):
            one = goal_of_bits("abcd", random.getrandbits(16))
            other = one | Goal.of_sets("abcd", random.choice(sets_of("abcd")))
            teller = least_teller(one)
            if one == other:
                self.assertIsNone(wrong_row(teller, other))
            else:
                self.assert_wrong(teller, other)

    def test_fewer_rooms_are_wrong(self):
        random = Random("fewer rooms")
        for goal in list(some_goals())[::4]:
            teller = least_teller(goal)
            many = len(teller) - 1
            if many:
                rows = [[(number, end if end < many else random.randrange(many)) for number, end in row]
                        for row in teller.steps()[:many]]
                self.assert_wrong(Teller(goal.lamps, rows), goal)
                self.assert_wrong(any_teller(random, goal.lamps, many, 9), goal)

    def test_fewer_numbers_are_wrong(self):
        for goal in list(some_goals())[::4]:
            teller = least_teller(goal)
            for gone in teller.numbers()[1:]:
                # Two neighbours become one number, and all above it move down in pairs.
                rows = [[(number - 2 if number > gone else min(number, gone - 1), end) for number, end in row]
                        for row in teller.steps()]
                if all(number >= 0 for row in rows for number, end in row):
                    self.assert_wrong(Teller(goal.lamps, rows), goal)

    def test_more_rooms_and_numbers_may_be_right(self):
        for goal in list(some_goals())[::7]:
            rows = least_teller(goal).steps()
            many = len(rows)
            if many <= 20:
                far = [[(number + 90, end + many) for number, end in row] for row in rows]
                self.assertIsNone(wrong_row(Teller(goal.lamps, far_first(far, rows)), goal))

    def test_rooms_that_are_never_entered(self):
        wrong = [[(1, 1), (1, 1)]]
        self.assertIsNone(wrong_row(Teller("a", [[(0, 0), (0, 0)]] + wrong), read_goal("a: {-, a}")))
        self.assert_wrong(Teller("a", [[(0, 0), (0, 1)]] + wrong), read_goal("a: {-, a}"))

    def test_a_far_room(self):
        rows = [[(0, at + 1), (0, 0)] for at in range(39)] + [[(0, 39), (1, 39)]]
        goal = read_goal("a: {-, a}")
        self.assert_wrong(Teller("a", rows), goal)
        rows[39][1] = (0, 39)
        self.assertIsNone(wrong_row(Teller("a", rows), goal))

    def test_large_tellers(self):
        random = Random("large tellers")
        for _ in range(12):
            teller = any_teller(random, "abcd", 40, 99)
            self.assert_wrong(teller, goal_of_bits("abcd", random.getrandbits(16)))
        even = Teller("abcd", [[(2 * random.randrange(50), random.randrange(40)) for _ in range(16)] for _ in range(40)])
        self.assertIsNone(wrong_row(even, ~Goal.of_sets("abcd")))
        self.assert_wrong(even, ~Goal.of_sets("abcd", "bc"))

    def test_lists_are_new_and_names(self):
        teller, goal = least_teller(read_goal("a: a")), read_goal("a: not a")
        row = wrong_row(goal=goal, teller=teller)
        row[1].append("x")
        self.assertNotEqual(wrong_row(teller, goal), row)

    def test_lamps_differ(self):
        teller = least_teller(read_goal("ab: a"))
        for lamps in ("a", "b", "abc", "ac"):
            with self.assertRaises(LampsDiffer):
                wrong_row(teller, Goal.of_sets(lamps))


def far_first(far, rows):
    """Rows whose first room goes on to the far rooms: the rooms of the rows move behind them by their own count."""
    return [[(0, end) for number, end in far[0]], *rows[1:], *far]


if __name__ == "__main__":
    unittest.main()
