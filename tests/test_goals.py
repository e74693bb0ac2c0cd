import unittest
from itertools import product
from random import Random

from relitgoals.errors import InvalidLamps, InvalidSentence, InvalidSet, LampsDiffer
from relitgoals.goals import Goal
from tests.helpers import LAMPS, NO_STRINGS, WRONG_STRINGS, EqualCase, row_of_nots, sets_of


def holds(sentence, kept):
    """What the document says of sentences, with Python's sets, independently of the package."""
    word, rest = sentence[0], sentence[1:]
    if word == "lit":
        return rest[0] in set(kept)
    if word == "least":
        return len(set(kept) & set(rest[1])) >= rest[0]
    if word == "sets":
        return any(set(kept) == set(item) for item in rest)
    if word == "not":
        return not holds(rest[0], kept)
    judged = {holds(part, kept) for part in rest}
    return judged == {True} if word == "and" else True in judged


def any_sentence(random, lamps, depth):
    """Some sentence about some lamps with at most 20 parts."""
    word = random.choice(("lit", "least", "sets") if depth == 0 else ("not", "and", "or", "lit", "least", "sets"))
    sets = sets_of(lamps)
    if word == "lit":
        return ("lit", random.choice(lamps))
    if word == "least":
        return ("least", random.randint(1, 4), random.choice(sets))
    if word == "sets":
        return ("sets", *[random.choice(sets) for _ in range(random.randint(0, 16))])
    many = 1 if word == "not" else random.randint(2, 4)
    return (word, *[any_sentence(random, lamps, depth - 1) for _ in range(many)])


def basic_sentences(lamps):
    sets = sets_of(lamps)
    yield from (("lit", lamp) for lamp in lamps)
    yield from (("least", many, kept) for many in (1, 2, 3, 4) for kept in sets)
    yield from (("sets",), ("sets", ""), ("sets", lamps), ("sets", *sets), ("sets", *reversed(sets)))
    yield from (("sets", lamps, lamps[0], lamps[0], ""), row_of_nots(18, ("lit", lamps[0])), row_of_nots(19, ("sets", "")))
    yield from ((word, ("lit", lamps[0]), ("lit", lamps[-1])) for word in ("and", "or"))
    yield from ((word, ("lit", lamps[0]), ("sets",), ("sets", *sets)) for word in ("and", "or"))
    yield from ((word, *[("sets", kept) for kept in (sets * 2)[:4]]) for word in ("and", "or"))


def some_sentences(lamps):
    random = Random(lamps)
    yield from basic_sentences(lamps)
    yield from (any_sentence(random, lamps, 2) for _ in range(40))


def number_of_parts(sentence):
    inner = sentence[1:] if sentence[0] in ("not", "and", "or") else ()
    return 1 + sum(number_of_parts(part) for part in inner)


class HoldsTest(unittest.TestCase):
    def test_each_set(self):
        for lamps in LAMPS:
            for sentence in some_sentences(lamps):
                if number_of_parts(sentence) > 20:
                    continue
                with self.subTest(lamps, sentence=sentence):
                    self.compare(lamps, sentence)

    def compare(self, lamps, sentence):
        goal = Goal(lamps, sentence)
        expected = [kept for kept in sets_of(lamps) if holds(sentence, kept)]
        for kept in sets_of(lamps):
            self.assertIs(goal(kept), kept in expected)
            self.assertIs(kept in goal, kept in expected)
            self.assertIs(kept not in goal, kept not in expected)
        self.assertEqual(goal.sets(), expected)
        self.assertEqual(len(goal), len(expected))
        self.assertEqual(repr(goal), f"Goal({lamps}, {len(expected)} sets)")
        self.assertEqual((goal.lamps, goal.sentence), (lamps, sentence))

    def test_examples(self):
        goal = Goal("abc", ("and", ("lit", "a"), ("not", ("sets", "a", "abc"))))
        self.assertEqual(goal.sets(), ["ab", "ac"])
        self.assertEqual(Goal("abc", ("least", 2, "ac")).sets(), ["ac", "abc"])
        self.assertEqual(Goal("abc", ("least", 3, "ac")).sets(), [])
        self.assertEqual(Goal("ab", ("sets", "ab", "", "ab")).sets(), ["", "ab"])

    def test_repr_for_any_number(self):
        self.assertEqual(repr(Goal("a", ("sets",))), "Goal(a, 0 sets)")
        self.assertEqual(repr(Goal("ab", ("sets", "b"))), "Goal(ab, 1 sets)")
        self.assertEqual(repr(Goal("ab", ("lit", "a"))), "Goal(ab, 2 sets)")
        self.assertEqual(repr(Goal("wxyz", ("not", ("sets",)))), "Goal(wxyz, 16 sets)")

    def test_invalid_set(self):
        goal = Goal("abc", ("lit", "a"))
        for kept in (*NO_STRINGS, *WRONG_STRINGS, "d", "ad", "abcd", "ca", goal):
            for call in (lambda: goal(kept), lambda: kept in goal):
                with self.subTest(kept=kept):
                    with self.assertRaises(InvalidSet) as caught:
                        call()
                    self.assertEqual(caught.exception.given, kept)
                    self.assertIs(type(caught.exception.given), type(kept))

    def test_by_name(self):
        goal = Goal(sentence=("lit", "b"), lamps="ab")
        self.assertIs(goal(kept="b"), True)
        self.assertIs(goal(kept="a"), False)

    def test_wrong_sentences_and_lamps(self):
        with self.assertRaises(InvalidLamps):
            Goal("ba", ("lit", "a"))
        with self.assertRaises(InvalidSentence):
            Goal("ab", ["lit", "a"])

    def test_goals_never_change(self):
        goal = Goal("ab", ("lit", "a"))
        with self.assertRaises(AttributeError):
            goal.lamps = "abc"
        with self.assertRaises(AttributeError):
            goal.sentence = ("lit", "b")
        sets = goal.sets()
        sets.append("b")
        sets[0] = ""
        self.assertEqual(goal.sets(), ["a", "ab"])
        self.assertIsNot(goal.sets(), goal.sets())
        self.assertEqual((len(goal), goal("b"), goal("a")), (2, False, True))


class OfSetsTest(unittest.TestCase):
    def assert_goal(self, goal, lamps, *sets):
        self.assertIs(type(goal), Goal)
        self.assertEqual(goal.lamps, lamps)
        self.assertEqual(goal.sentence, ("sets", *sets))
        self.assertEqual(goal.sets(), list(sets))

    def test_order_and_repeats(self):
        self.assert_goal(Goal.of_sets("ab"), "ab")
        self.assert_goal(Goal.of_sets("ab", ""), "ab", "")
        self.assert_goal(Goal.of_sets("abc", "bc", "b", "", "abc", "ac", "b", "bc"), "abc", "", "b", "ac", "bc", "abc")
        self.assert_goal(Goal.of_sets("bx", "x", "b"), "bx", "b", "x")

    def test_any_order(self):
        for sets in product(sets_of("ab"), repeat=4):
            with self.subTest(sets):
                self.assert_goal(Goal.of_sets("ab", *sets), "ab", *[kept for kept in sets_of("ab") if kept in sets])

    def test_more_than_sixteen(self):
        sets = sets_of("abcd")
        self.assert_goal(Goal.of_sets("abcd", *reversed(sets)), "abcd", *sets)
        self.assert_goal(Goal.of_sets("abcd", *sets[::-1], *sets, ""), "abcd", *sets)
        self.assert_goal(Goal.of_sets("ab", *["b", "a"] * 50), "ab", "a", "b")

    def test_off_an_object(self):
        self.assert_goal(Goal("ab", ("lit", "a")).of_sets("xy", "y"), "xy", "y")

    def test_a_wrong_value_at_each_place(self):
        for wrong in (*NO_STRINGS, *WRONG_STRINGS, "d", "abcd", ["a", "b"]):
            for at in range(4):
                sets = ["", "ab", "c", "ab"]
                sets[at] = wrong
                with self.subTest(sets):
                    with self.assertRaises(InvalidSet) as caught:
                        Goal.of_sets("abc", *sets)
                    self.assertEqual(caught.exception.given, wrong)
                    self.assertIs(type(caught.exception.given), type(wrong))

    def test_the_first_wrong_value_counts(self):
        with self.assertRaises(InvalidSet) as caught:
            Goal.of_sets("ab", "a", "ba", None, "c")
        self.assertEqual(caught.exception.given, "ba")
        with self.assertRaises(InvalidSet) as caught:
            Goal.of_sets("a", *["a"] * 20, 7, "c")
        self.assertEqual(caught.exception.given, 7)

    def test_lamps_come_first(self):
        for lamps in (*NO_STRINGS, *WRONG_STRINGS, "", "abcde"):
            for sets in ((), ("a",), (None, "a")):
                with self.subTest(lamps=lamps, sets=sets):
                    with self.assertRaises(InvalidLamps) as caught:
                        Goal.of_sets(lamps, *sets)
                    self.assertEqual(caught.exception.given, lamps)


class CombinedTest(unittest.TestCase):
    def goals(self, lamps):
        return [Goal(lamps, sentence) for sentence in basic_sentences(lamps)]

    def assert_holds_for(self, goal, lamps, expected):
        self.assertIs(type(goal), Goal)
        self.assertEqual(goal.lamps, lamps)
        self.assertEqual(goal.sentence, ("sets", *expected))
        self.assertEqual(goal.sets(), expected)

    def test_and_or_invert(self):
        for lamps in ("a", "bx", "abcd"):
            sets = sets_of(lamps)
            for one in self.goals(lamps):
                self.assert_holds_for(~one, lamps, [x for x in sets if not holds(one.sentence, x)])
                for other in self.goals(lamps)[::3]:
                    both = [x for x in sets if holds(one.sentence, x) and holds(other.sentence, x)]
                    either = [x for x in sets if holds(one.sentence, x) or holds(other.sentence, x)]
                    self.assert_holds_for(one & other, lamps, both)
                    self.assert_holds_for(one | other, lamps, either)

    def test_examples(self):
        one, other = Goal("ab", ("lit", "b")), Goal("ab", ("sets", "b", "a"))
        self.assertEqual((one & other).sentence, ("sets", "b"))
        self.assertEqual((one | other).sentence, ("sets", "a", "b", "ab"))
        self.assertEqual((~one).sentence, ("sets", "", "a"))
        self.assertEqual((~Goal("ab", ("sets",))).sentence, ("sets", "", "a", "b", "ab"))
        self.assertEqual((one & ~one).sentence, ("sets",))

    def test_lamps_differ(self):
        for first, second in (("ab", "abc"), ("abc", "ab"), ("ab", "ac"), ("a", "b")):
            one, other = Goal(first, ("sets", "")), Goal(second, ("sets", ""))
            with self.assertRaises(LampsDiffer):
                one & other
            with self.assertRaises(LampsDiffer):
                one | other

    def test_the_combined_goals_stay_as_they_were(self):
        one, other = Goal("ab", ("lit", "b")), Goal("ab", ("least", 1, "a"))
        kept_one, kept_other = one, other
        one &= other
        other |= kept_one
        ~kept_one
        self.assertEqual(kept_one.sentence, ("lit", "b"))
        self.assertEqual(kept_one.sets(), ["b", "ab"])
        self.assertEqual(kept_other.sentence, ("least", 1, "a"))
        self.assertEqual(kept_other.sets(), ["a", "ab"])
        self.assertEqual(one.sets(), ["ab"])
        self.assertEqual(other.sets(), ["a", "b", "ab"])


class EqualTest(EqualCase):
    def test_same_sets_and_unlike_sentences(self):
        goals = [
            Goal("ab", ("lit", "a")),
            Goal("ab", ("least", 1, "a")),
            Goal("ab", ("sets", "ab", "a")),
            Goal("ab", ("sets", "a", "ab", "a")),
            Goal("ab", ("not", ("not", ("lit", "a")))),
            Goal.of_sets("ab", "ab", "a"),
        ]
        for one, other in product(goals, repeat=2):
            self.assert_equal(one, other, True)

    def test_other_sets(self):
        self.assert_equal(Goal("ab", ("lit", "a")), Goal("ab", ("lit", "b")), False)
        self.assert_equal(Goal("ab", ("lit", "a")), Goal("ab", ("sets", "a")), False)
        self.assert_equal(Goal("ab", ("sets",)), Goal("ab", ("sets", "")), False)

    def test_other_lamps(self):
        self.assert_equal(Goal("ab", ("sets", "a")), Goal("abc", ("sets", "a")), False)
        self.assert_equal(Goal("a", ("sets",)), Goal("b", ("sets",)), False)
        self.assert_equal(Goal("a", ("sets", "")), Goal("b", ("sets", "")), False)

    def test_other_values(self):
        goal = Goal("ab", ("sets", "a"))
        others = (None, 0, 1, True, "", "ab", "Goal(ab, 1 sets)", ("sets", "a"), ["a"], {}, object(), Goal)
        for other in others:
            with self.subTest(other=other):
                self.assert_equal(goal, other, False)


if __name__ == "__main__":
    unittest.main()
