import unittest
from itertools import combinations_with_replacement, islice, product

from relitgoals.errors import InvalidLamps
from relitgoals.lamps import all_sets, is_lamps, is_set, is_within, union
from tests.helpers import LAMPS, NO_STRINGS, WRONG_STRINGS, sets_of


class IsLampsTest(unittest.TestCase):
    def test_lamps(self):
        for value in (*LAMPS, "z", "az", "wxyz", "aceg"):
            with self.subTest(value):
                self.assertIs(is_lamps(value), True)

    def test_other_values(self):
        for value in (*NO_STRINGS, *WRONG_STRINGS, "", "abcde", "abcdefghijklmnopqrstuvwxyz", "`a", "a{"):
            with self.subTest(value=value):
                self.assertIs(is_lamps(value), False)

    def test_all_short_strings_of_three_letters(self):
        good = ["a", "b", "c", "ab", "ac", "bc", "abc"]
        for size in range(5):
            for letters in product("abc", repeat=size):
                value = "".join(letters)
                with self.subTest(value):
                    self.assertIs(is_lamps(value), value in good)

    def test_by_name(self):
        self.assertIs(is_lamps(value="ab"), True)


class IsSetTest(unittest.TestCase):
    def test_sets(self):
        for lamps in LAMPS:
            for value in sets_of(lamps):
                with self.subTest(lamps, value=value):
                    self.assertIs(is_set(value, lamps), True)

    def test_other_values(self):
        for lamps in LAMPS:
            for value in (*NO_STRINGS, *WRONG_STRINGS, "abcde", "q", "aq", lamps[0] * 2, lamps + "~"):
                with self.subTest(lamps, value=value):
                    self.assertIs(is_set(value, lamps), False)

    def test_all_short_strings_of_three_letters(self):
        for lamps in ("a", "b", "ac", "bc", "abc"):
            for size in range(5):
                for letters in product("abc", repeat=size):
                    value = "".join(letters)
                    with self.subTest(lamps, value=value):
                        self.assertIs(is_set(value, lamps), value in sets_of(lamps))

    def test_letters_need_not_stand_side_by_side_in_the_lamps(self):
        self.assertIs(is_set("ac", "abc"), True)
        self.assertIs(is_set("ad", "abcd"), True)

    def test_by_name(self):
        self.assertIs(is_set(lamps="ab", value="b"), True)


class AllSetsTest(unittest.TestCase):
    def test_smaller_sets_first(self):
        self.assertEqual(list(all_sets("a")), ["", "a"])
        self.assertEqual(list(all_sets("abc")), ["", "a", "b", "c", "ab", "ac", "bc", "abc"])
        for lamps in LAMPS:
            with self.subTest(lamps):
                self.assertEqual(list(all_sets(lamps)), sets_of(lamps))

    def test_partly(self):
        sets = all_sets("abcd")
        self.assertEqual(list(islice(sets, 6)), ["", "a", "b", "c", "d", "ab"])
        self.assertEqual(next(sets), "ac")

    def test_twice_in_turn(self):
        one, other = all_sets("ab"), all_sets(lamps="ab")
        self.assertEqual([(next(one), next(other)) for _ in range(4)], [(x, x) for x in ("", "a", "b", "ab")])
        self.assertEqual([list(one), list(other)], [[], []])

    def test_the_error_comes_with_the_first_item(self):
        for value in (*NO_STRINGS, *WRONG_STRINGS, "", "abcde"):
            with self.subTest(value=value):
                sets = all_sets(value)
                with self.assertRaises(InvalidLamps) as caught:
                    next(sets)
                self.assertEqual(caught.exception.given, value)
                self.assertIs(type(caught.exception.given), type(value))

    def test_arguments_are_not_changed(self):
        value = ["a", ["b"]]
        with self.assertRaises(InvalidLamps):
            list(all_sets(value))
        self.assertEqual(value, ["a", ["b"]])


class UnionTest(unittest.TestCase):
    def test_none_and_one(self):
        self.assertEqual(union(), "")
        self.assertEqual(union(""), "")
        self.assertEqual(union("acz"), "acz")

    def test_several(self):
        self.assertEqual(union("b", "a"), "ab")
        self.assertEqual(union("", "bc", "", "ab", "z"), "abcz")
        self.assertEqual(union("wxyz", "abcd", "mn"), "abcdmnwxyz")

    def test_all_pairs_and_triples(self):
        for sets in combinations_with_replacement(sets_of("abcd"), 2):
            with self.subTest(sets):
                self.assertEqual(union(*sets), "".join(sorted(set(sets[0]) | set(sets[1]))))
        for sets in product(sets_of("bx"), repeat=3):
            with self.subTest(sets):
                self.assertEqual(union(*sets), "".join(x for x in "bx" if any(x in one for one in sets)))


class IsWithinTest(unittest.TestCase):
    def test_all_pairs(self):
        for one, other in product(sets_of("abcd"), repeat=2):
            with self.subTest(one, other=other):
                self.assertIs(is_within(one, other), set(one) <= set(other))

    def test_letters_need_not_stand_side_by_side(self):
        self.assertIs(is_within("ac", "abc"), True)
        self.assertIs(is_within("abc", "ac"), False)

    def test_by_name(self):
        self.assertIs(is_within(other="ab", one="b"), True)


if __name__ == "__main__":
    unittest.main()
