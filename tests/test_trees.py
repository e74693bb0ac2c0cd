import unittest
from itertools import islice

from relitgoals.errors import InvalidHand, InvalidSet
from relitgoals.goals import Goal
from relitgoals.trees import Tree
from tests.helpers import LAMPS, NO_HANDS, NO_STRINGS, WRONG_STRINGS, same_values, sets_of, some_goals


def parts(goal, whole):
    """The parts of a set, by the words of the document and with Python's sets."""
    held = goal.sets()
    unlike = [kept for kept in sets_of(whole) if (kept in held) != (whole in held)]
    return sorted(kept for kept in unlike if not any(set(kept) < set(other) for other in unlike))


def branches(goal):
    done, growing = [], [(goal.lamps,)]
    while growing:
        branch = growing.pop()
        below = parts(goal, branch[-1])
        growing.extend((*branch, part) for part in below)
        if not below:
            done.append(branch)
    return sorted(done)


def is_held(goal, hand, kept):
    """Whether the goal of a hand holds for a set."""
    return (kept in goal.sets()) == (hand == 1)


def worth(goal, hand, kept):
    worths = [worth(goal, hand, part) for part in parts(goal, kept)]
    if not worths:
        return 1
    return sum(worths) if is_held(goal, hand, kept) else max(worths)


def is_step_of_way(goal, hand, one, part):
    best = max(worth(goal, hand, other) for other in parts(goal, one))
    firsts = [other for other in parts(goal, one) if worth(goal, hand, other) == best]
    return is_held(goal, hand, one) or part == firsts[0]


def ways(goal, hand):
    return [branch for branch in branches(goal)
            if all(is_step_of_way(goal, hand, *step) for step in zip(branch, branch[1:]))]


class AllGoalsTest(unittest.TestCase):
    def test_parts(self):
        for goal in some_goals():
            tree = Tree(goal)
            for kept in sets_of(goal.lamps):
                with self.subTest(goal.sets(), kept=kept):
                    self.assertEqual(tree.parts(kept), parts(goal, kept))

    def test_branches_height_len_repr(self):
        for goal in some_goals():
            with self.subTest(goal.sets()):
                tree, expected = Tree(goal), branches(goal)
                self.assertEqual(list(tree.branches()), expected)
                self.assertEqual(tree.height(), max(map(len, expected)))
                self.assertEqual(len(tree), len(expected))
                self.assertEqual(repr(tree), f"Tree({len(expected)} branches)")

    def test_worths_and_ways(self):
        for goal in some_goals():
            tree = Tree(goal)
            for hand in (1, 2):
                with self.subTest(goal.sets(), hand=hand):
                    self.assertEqual(tree.worth(hand), worth(goal, hand, goal.lamps))
                    self.assertEqual(tree.ways(hand), ways(goal, hand))
                    self.assertEqual(len(tree.ways(hand)), tree.worth(hand))
                    self.assertEqual(Tree(~goal).worth(3 - hand), tree.worth(hand))
                    self.assertEqual(Tree(~goal).ways(3 - hand), tree.ways(hand))


class ExamplesTest(unittest.TestCase):
    def test_both(self):
        tree = Tree(Goal("ab", ("and", ("lit", "a"), ("lit", "b"))))
        self.assertEqual(list(tree.branches()), [("ab", "a"), ("ab", "b")])
        self.assertEqual((tree.worth(1), tree.worth(2), tree.height(), len(tree)), (2, 1, 2, 2))
        self.assertEqual((tree.ways(1), tree.ways(2)), ([("ab", "a"), ("ab", "b")], [("ab", "a")]))
        self.assertEqual((tree.parts("ab"), tree.parts("a"), tree.parts("")), (["a", "b"], [], []))
        self.assertEqual(repr(tree), "Tree(2 branches)")

    def test_no_set_and_all_sets(self):
        for lamps in LAMPS:
            for goal in (Goal.of_sets(lamps), ~Goal.of_sets(lamps)):
                tree = Tree(goal)
                with self.subTest(lamps):
                    self.assertEqual(list(tree.branches()), [(lamps,)])
                    self.assertEqual((tree.height(), len(tree), repr(tree)), (1, 1, "Tree(1 branches)"))
                    for hand in (1, 2):
                        self.assertEqual((tree.worth(hand), tree.ways(hand)), (1, [(lamps,)]))
                    self.assertEqual([tree.parts(kept) for kept in sets_of(lamps)], [[]] * 2 ** len(lamps))

    def test_ascending_is_not_smaller_sets_first(self):
        tree = Tree(Goal.of_sets("abcd", "abcd", ""))
        self.assertEqual(tree.parts("abcd"), ["abc", "abd", "acd", "bcd"])
        tree = Tree(Goal.of_sets("abc", "c", "ab", "bc"))
        self.assertEqual(tree.parts("abc"), ["ab", "bc"])
        tree = Tree(Goal.of_sets("abc", "b", "ac"))
        self.assertEqual(tree.parts("abc"), ["ac", "b"])
        tree = Tree(Goal.of_sets("abcd", "abc", "d"))
        self.assertEqual(list(tree.branches()), [("abcd", "abc", "ab"), ("abcd", "abc", "ac"), ("abcd", "abc", "bc"),
                                                ("abcd", "d", "")])

    def test_the_first_part_with_the_greatest_worth(self):
        # For hand one the parts ab and cd are worth 2 each, and abcd is a set of hand two.
        tree = Tree(Goal.of_sets("abcd", "ab", "cd"))
        self.assertEqual((tree.worth(1), tree.ways(1)), (2, [("abcd", "ab", "a"), ("abcd", "ab", "b")]))
        self.assertEqual((tree.worth(2), tree.ways(2)), (2, [("abcd", "ab", "a"), ("abcd", "cd", "c")]))
        # Here a is worth 1 and bc is worth 2.
        tree = Tree(Goal.of_sets("abc", "a", "bc"))
        self.assertEqual((tree.parts("abc"), tree.ways(1)), (["a", "bc"], [("abc", "bc", "b"), ("abc", "bc", "c")]))

    def test_twenty_four_ways(self):
        tree = Tree(Goal.of_sets("abcd", *[kept for kept in sets_of("abcd") if len(kept) % 2 == 0]))
        self.assertEqual((len(tree), tree.height(), repr(tree)), (24, 5, "Tree(24 branches)"))
        self.assertEqual((tree.worth(1), tree.worth(2)), (8, 3))


class BranchesTest(unittest.TestCase):
    def setUp(self):
        self.tree = Tree(Goal.of_sets("abc", "abc"))

    def test_partly(self):
        found = self.tree.branches()
        self.assertEqual(list(islice(found, 2)), [("abc", "ab"), ("abc", "ac")])
        self.assertEqual(next(found), ("abc", "bc"))
        self.assertEqual(list(found), [])

    def test_twice_in_turn(self):
        one, other = self.tree.branches(), self.tree.branches()
        for branch in (("abc", "ab"), ("abc", "ac"), ("abc", "bc")):
            self.assertEqual((next(one), next(other)), (branch, branch))
        self.assertEqual([list(one), list(other), len(list(self.tree.branches()))], [[], [], 3])

    def test_tuples(self):
        for branch in self.tree.branches():
            self.assertIs(type(branch), tuple)
        for way in [*self.tree.ways(1), *self.tree.ways(2)]:
            self.assertIs(type(way), tuple)


class WrongValuesTest(unittest.TestCase):
    def setUp(self):
        self.tree = Tree(goal=Goal("abc", ("lit", "a")))

    def test_invalid_set(self):
        for value in (*NO_STRINGS, *WRONG_STRINGS, "d", "ad", "abcd", "ca", 2, ["a", ["b"]]):
            with self.subTest(value=value):
                with self.assertRaises(InvalidSet) as caught:
                    self.tree.parts(value)
                self.assertTrue(same_values(caught.exception.given, value))

    def test_invalid_hand(self):
        for value in NO_HANDS:
            for call in (self.tree.worth, self.tree.ways):
                with self.subTest(value=value, call=call):
                    with self.assertRaises(InvalidHand) as caught:
                        call(value)
                    self.assertTrue(same_values(caught.exception.given, value))

    def test_by_name(self):
        self.assertEqual(self.tree.parts(lit="ab"), ["b"])
        self.assertEqual(self.tree.worth(hand=1), 1)
        self.assertEqual(self.tree.ways(hand=2), [("abc", "bc")])


class NeverChangesTest(unittest.TestCase):
    def test_lists_are_new(self):
        goal = Goal.of_sets("ab", "ab")
        tree = Tree(goal)
        self.assertIs(tree.goal, goal)
        for call in (lambda: tree.parts("ab"), lambda: tree.parts("a"), lambda: tree.ways(1), lambda: tree.ways(2)):
            expected, changed = call(), call()
            self.assertIsNot(expected, changed)
            changed.append("x")
            changed[:1] = []
            self.assertEqual(call(), expected)
        self.assertEqual(list(tree.branches()), [("ab", "a"), ("ab", "b")])

    def test_the_goal_stays(self):
        tree = Tree(Goal.of_sets("ab", "ab"))
        with self.assertRaises(AttributeError):
            tree.goal = Goal.of_sets("ab")


if __name__ == "__main__":
    unittest.main()
