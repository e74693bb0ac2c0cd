import unittest
from itertools import islice

from relitgoals.errors import InvalidLamps, InvalidSentence
from relitgoals.goals import Goal, check_sentence, parts_of
from tests.helpers import NO_STRINGS, WRONG_STRINGS, row_of_nots, sets_of

A = ("lit", "a")
B = ("lit", "b")
NO_SETS = (*NO_STRINGS, *WRONG_STRINGS, "e", "ae", "abcde")
ALL_SIXTEEN = tuple(sets_of("abcd"))


def wide(many):
    """A sentence with so many parts (17 to 21): an "and" of four, each of which is a "not" or an "or" of four."""
    outer = ("and", ("or", A, A, A, A), ("or", A, A, A, A), ("or", A, A, A, A))
    rest = {17: A, 18: ("not", A), 19: ("or", A, B), 20: ("or", A, B, A), 21: ("or", A, B, A, B)}
    return (*outer, rest[many])


class SentenceTest(unittest.TestCase):
    def assert_right(self, value, lamps="abcd"):
        with self.subTest(value=value):
            self.assertIsNone(check_sentence(lamps, value))
            self.assertEqual(Goal(lamps, value).sentence, value)

    def assert_wrong(self, number, value, lamps="abcd"):
        for call in (check_sentence, Goal):
            with self.subTest(value=value, call=call):
                with self.assertRaises(InvalidSentence) as caught:
                    call(lamps, value)
                self.assertEqual(caught.exception.part, number)


class FormsTest(SentenceTest):
    def test_no_tuples(self):
        for value in (0, 1, True, False, None, "", "a", "lit", [], ["lit", "a"], ["not", A], ["sets"], [A], ["and", A, A]):
            self.assert_wrong(0, value)

    def test_unknown_first_element(self):
        for value in ((), ("",), ("a",), ("lits", "a"), ("Lit", "a"), ("xor", A, A), (None, A), (True, A), (0, A)):
            self.assert_wrong(0, value)
        for value in ((("lit",), "a"), (["lit"], "a"), (A,), (A, A), (["not"], A), ("no", A), ("an", A, A)):
            self.assert_wrong(0, value)

    def test_lit(self):
        for lamp in "abcd":
            self.assert_right(("lit", lamp))
        for lamp in (*NO_SETS, "", "ab", "abcd"):
            self.assert_wrong(0, ("lit", lamp))
        for value in (("lit",), ("lit", "a", "b"), ("lit", "a", "a"), ("lit", A)):
            self.assert_wrong(0, value)
        self.assert_wrong(0, ("lit", "c"), "ab")

    def test_least(self):
        for many in (1, 2, 3, 4):
            for lamps in ("", "a", "bd", "abcd"):
                self.assert_right(("least", many, lamps))
        for many in (0, 5, -1, 400, True, False, None, "1", "", (1,), [1], ("least", 1, "a")):
            self.assert_wrong(0, ("least", many, "ab"))
        for lamps in NO_SETS:
            self.assert_wrong(0, ("least", 1, lamps))
        for value in (("least",), ("least", 1), ("least", 1, "a", "b"), ("least", "ab", 1), ("least", "ab")):
            self.assert_wrong(0, value)
        self.assert_wrong(0, ("least", 1, "ac"), "ab")

    def test_sets(self):
        for value in (("sets",), ("sets", ""), ("sets", "a", "a"), ("sets", "abcd", "", "b"), ("sets", *ALL_SIXTEEN)):
            self.assert_right(value)
        self.assert_right(("sets", *["a"] * 16))
        self.assert_wrong(0, ("sets", *["a"] * 17))
        self.assert_wrong(0, ("sets", *ALL_SIXTEEN, ""))
        for item in NO_SETS:
            self.assert_wrong(0, ("sets", item))
            self.assert_wrong(0, ("sets", item, "a"))
            self.assert_wrong(0, ("sets", "a", "b", item))
        self.assert_wrong(0, ("sets", ["a", "b"]))
        self.assert_wrong(0, ("sets", "ab", "c"), "ab")

    def test_not(self):
        for value in (("not", A), ("not", ("not", A)), ("not", ("sets",))):
            self.assert_right(value)
        for value in (("not",), ("not", A, A), ("not", A, A, A)):
            self.assert_wrong(0, value)
        for inner in (None, 0, True, "a", "", (), ["lit", "a"], [A]):
            self.assert_wrong(1, ("not", inner))

    def test_and_or(self):
        for word in ("and", "or"):
            for many in (2, 3, 4):
                self.assert_right((word, *[A] * many))
                for at in range(many):
                    for wrong in (None, 7, "a", (), list(A), ("lit", "e")):
                        inner = [A] * many
                        inner[at] = wrong
                        self.assert_wrong(at + 1, (word, *inner))
            for many in (0, 1, 5, 6):
                self.assert_wrong(0, (word, *[A] * many))
            self.assert_wrong(0, (word, [A, A]))
            self.assert_wrong(1, (word, [A, A], [A, A]))


class NumberTest(SentenceTest):
    def test_each_part_in_turn(self):
        def built(*leaves):
            one, two, three, four = leaves
            return ("and", ("not", one), ("or", two, ("not", ("not", three))), four)

        numbers = (2, 4, 7, 8)
        self.assert_right(built(A, B, A, B))
        for at, number in enumerate(numbers):
            leaves = [A, B, ("sets",), ("least", 2, "ab")]
            leaves[at] = ("lit", "e")
            self.assert_wrong(number, built(*leaves))

    def test_the_first_wrong_part_counts(self):
        self.assert_wrong(1, ("and", (), ()))
        self.assert_wrong(2, ("or", ("not", ()), ()))
        self.assert_wrong(3, ("or", ("not", A), ("not",), ()))

    def test_a_part_is_judged_before_the_sentences_in_it(self):
        self.assert_wrong(0, ("and", ()))
        self.assert_wrong(0, ("not", (), ()))
        self.assert_wrong(1, ("not", ("or", (), A, A, A, A)))
        self.assert_wrong(1, ("and", ["and", (), ()], ()))

    def test_wrong_parts_of_a_wide_sentence(self):
        for group in range(3):
            for leaf in range(4):
                value = [list(part) if part[0] == "or" else part for part in wide(17)]
                value[group + 1][leaf + 1] = ("least", 5, "a")
                value = tuple(tuple(part) if isinstance(part, list) else part for part in value)
                self.assert_wrong(1 + 5 * group + 1 + leaf, value)

    def test_twenty_parts(self):
        for many in (17, 18, 19, 20):
            self.assertEqual(len(list(parts_of(wide(many)))), many)
            self.assert_right(wide(many))
        self.assertEqual(len(list(parts_of(wide(21)))), 21)
        self.assert_wrong(20, wide(21))

    def test_rows_of_not(self):
        for many in (1, 2, 18, 19):
            self.assert_right(row_of_nots(many, A))
            self.assert_wrong(many, row_of_nots(many, None))
        for many in (20, 21, 37, 40, 400):
            self.assert_wrong(20, row_of_nots(many, A))
            self.assert_wrong(20, row_of_nots(many, None))

    def test_the_number_twenty_is_wrong_whatever_stands_there(self):
        full = ("or", A, A, A, A)
        self.assert_wrong(20, ("and", full, full, full, ("or", A, A, A, ())))
        self.assert_wrong(20, ("and", full, full, full, ("or", A, A, A, full)))
        self.assert_wrong(19, ("and", full, full, full, ("or", A, A, (), A)))

    def test_lamps_come_first(self):
        for lamps in (*NO_STRINGS, *WRONG_STRINGS, "", "abcde"):
            for value in (A, (), None, row_of_nots(30, A)):
                for call in (check_sentence, Goal):
                    with self.subTest(lamps=lamps, value=value, call=call):
                        with self.assertRaises(InvalidLamps) as caught:
                            call(lamps, value)
                        self.assertEqual(caught.exception.given, lamps)
                        self.assertIs(type(caught.exception.given), type(lamps))

    def test_by_name(self):
        self.assertIsNone(check_sentence(value=A, lamps="a"))

    def test_arguments_are_not_changed(self):
        inner = ["lit", "a"]
        value = ("and", A, inner)
        self.assert_wrong(2, value)
        self.assertEqual(value, ("and", A, ["lit", "a"]))
        self.assertEqual(inner, ["lit", "a"])


class PartsTest(unittest.TestCase):
    def test_one_part(self):
        for sentence in (A, ("least", 2, "ab"), ("sets",), ("sets", "not", "and")):
            with self.subTest(sentence):
                self.assertEqual(list(parts_of(sentence)), [sentence])

    def test_whole(self):
        sentence = ("and", ("not", A), ("or", B, ("not", ("sets", "ab"))), ("least", 1, "ab"))
        self.assertEqual(list(parts_of(sentence)), [
            sentence,
            ("not", A),
            A,
            ("or", B, ("not", ("sets", "ab"))),
            B,
            ("not", ("sets", "ab")),
            ("sets", "ab"),
            ("least", 1, "ab"),
        ])

    def test_partly(self):
        parts = parts_of(("or", ("not", A), B, A))
        self.assertEqual(list(islice(parts, 3)), [("or", ("not", A), B, A), ("not", A), A])
        self.assertEqual(next(parts), B)

    def test_twice_in_turn(self):
        sentence = ("and", A, ("not", B))
        one, other = parts_of(sentence), parts_of(sentence=sentence)
        expected = [sentence, A, ("not", B), B]
        self.assertEqual([(next(one), next(other)) for _ in range(4)], [(part, part) for part in expected])
        self.assertEqual([list(one), list(other)], [[], []])

    def test_long_rows_of_not(self):
        self.assertEqual(len(list(parts_of(row_of_nots(19, A)))), 20)
        self.assertEqual(len(list(parts_of(row_of_nots(60, A)))), 61)


if __name__ == "__main__":
    unittest.main()
