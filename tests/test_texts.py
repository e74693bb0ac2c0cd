import unittest
from random import Random

from relitgoals.boards import Board
from relitgoals.errors import InvalidText
from relitgoals.goals import Goal, parts_of
from relitgoals.texts import board_text, goal_text, read_board, read_goal, sentence_text
from tests.helpers import LAMPS, any_board, row_of_nots, sets_of

# Each character that a text may have, and some that stand in texts.
SIGNS = [chr(code) for code in range(32, 127) if code != 37] + ["\n"]

SENTENCES = (
    (("lit", "a"), "a"),
    (("least", 1, "ab"), "1 of ab"),
    (("least", 4, ""), "4 of -"),
    (("sets",), "{}"),
    (("sets", ""), "{-}"),
    (("sets", "ab", "", "ab", "b"), "{ab, -, ab, b}"),
    (("not", ("lit", "b")), "not b"),
    (("not", ("not", ("sets", "a"))), "not not {a}"),
    (("and", ("lit", "a"), ("lit", "b")), "(a and b)"),
    (("or", ("lit", "a"), ("least", 2, "a"), ("lit", "b")), "(a or 2 of a or b)"),
    (("and", ("sets",), ("sets",), ("sets",), ("sets",)), "({} and {} and {} and {})"),
    (("or", ("and", ("lit", "a"), ("lit", "b")), ("not", ("or", ("lit", "b"), ("lit", "b")))), "((a and b) or not (b or b))"),
    (("not", ("and", ("lit", "a"), ("not", ("lit", "b")))), "not (a and not b)"),
)
WRONG_GOALS = """
a
a:
a:a
a:  a
a : a
 a: a
a: a_
a: b
a: ab
a: -
a: A
aa: a
ba: a
abcde: a
: a
ab: a and b
ab: (a)
ab: ()
ab: (a and b
ab: a and b)
ab: (a  and b)
ab: (a and  b)
ab: ( a and b)
ab: (a and b )
ab: (a and b or a)
ab: (a or b and a)
ab: (a and b and a and b and a)
ab: (a or b or a or b or a)
ab: (a,b)
ab: (a xor b)
ab: (and a b)
ab: ((a and b))
ab: not
ab: not_
ab: not  a
ab: nota
ab: not(a or b)
ab: Not a
ab: notnot a
ab: 0 of a
ab: 5 of ab
ab: 01 of a
ab: +1 of a
ab: -1 of a
ab: 1of a
ab: 1 of
ab: 1 of_
ab: 1 of  a
ab: 1 of ba
ab: 1 of c
ab: 1 of aa
ab: 1 of {}
ab: 1  of a
ab: 10 of a
ab: one of a
ab: {
ab: }
ab: {,}
ab: {, }
ab: {a,b}
ab: {a , b}
ab: {a, b
ab: { a}
ab: {a }
ab: {a, }
ab: {a, , b}
ab: {ba}
ab: {c}
ab: {--}
ab: {a}{b}
ab: {a} b
ab: {{a}}
ab: {a, {b}}
ab: {not a}
ab: a b
ab: a: b
ab: ab: a
""".split("\n")[1:-1]
WRONG_BOARDS = """
ab
ab 1
ab 1_
ab 1 0>0_
_ab 1 0>0
ab  1 0>0
ab 1  0>0
ab 1 0>0 0>0
ab 1 0>0,
ab 1 ,0>0
ab 1 0>0,,0>0
ab 1 0>0, 0>0
ab 1 0>0;0>0
ab 1 00>0
ab 1 0>00
ab 1 01>0
ab 1 +0>0
ab 1 0>-0
ab 1 -1>0
ab 1 0>1
ab 1 1>0
ab 1 0>
ab 1 >0
ab 1 >
ab 1 0
ab 1 0>0>0
ab 1 0>>0
ab 1 0-0
ab 1 0>0:
ab 1 0>0:-
ab 1 0>0:c
ab 1 0>0:ba
ab 1 0>0:aa
ab 1 0>0::a
ab 1 0>0:a:b
ab 1 0>0a
ab 1 0:a>0
ab 1 0 > 0
ab 0 0>0
ab 3 0>0
ab 1,2 0>0,1>0
ab 12 0>1
ab 12 1>0
ab 12 0>0,1>2
ab  0>0
ab a 0>0
ab -1 0>0
aa 1 0>0
ba 1 0>0
_1 0>0
A 1 0>0
abcde 1 0>0
ab: 1 0>0
""".split("\n")[1:-1]


def drawn_sentence(random, lamps, left):
    """Some sentence with at most so many parts."""
    word = random.choice(("lit", "least", "sets", "not", "and", "or") if left > 4 else ("lit", "least", "sets"))
    if word == "lit":
        return ("lit", random.choice(lamps))
    if word == "least":
        return ("least", random.randint(1, 4), random.choice(sets_of(lamps)))
    if word == "sets":
        return ("sets", *[random.choice(sets_of(lamps)) for _ in range(random.choice((0, 1, 2, 16)))])
    many = 1 if word == "not" else random.randint(2, 4)
    return (word, *[drawn_sentence(random, lamps, (left - 1) // many) for _ in range(many)])


def near_texts(text):
    """Each text with one character put in, taken out or exchanged."""
    for at in range(len(text) + 1):
        yield text[:at] + text[at + 1:]
        for sign in SIGNS:
            yield text[:at] + sign + text[at:]
            yield text[:at] + sign + text[at + 1:]


class TextCase(unittest.TestCase):
    def assert_refused(self, read, text):
        with self.subTest(text):
            with self.assertRaises(InvalidText):
                read(text)

    def assert_near_texts(self, text, read, write):
        """Each text near to one is refused, or is just the text of what is read; returns how many are read."""
        taken = 0
        for near in near_texts(text):
            try:
                thing = read(near)
            except InvalidText:
                continue
            self.assertEqual(write(thing), near)
            taken += 1
        return taken


class GoalTextTest(TextCase):
    def test_each_kind_of_sentence(self):
        for sentence, text in SENTENCES:
            with self.subTest(text):
                self.assertEqual(sentence_text(sentence), text)
                self.assertEqual(sentence_text(sentence=sentence), text)
                goal = Goal("ab", sentence)
                self.assertEqual(goal_text(goal), "ab: " + text)
                self.assertEqual(goal_text(goal=goal), "ab: " + text)
                for found in (read_goal("ab: " + text), read_goal(text="ab: " + text)):
                    self.assertIsInstance(found, Goal)
                    self.assertEqual((found.lamps, found.sentence), ("ab", sentence))

    def test_the_example(self):
        goal = Goal("ab", ("and", ("lit", "a"), ("not", ("sets", "b", ""))))
        self.assertEqual(goal_text(goal), "ab: (a and not {b, -})")

    def test_every_set(self):
        for lamps in LAMPS:
            for kept in sets_of(lamps):
                for sentence, text in ((("sets", kept), "{" + (kept or "-") + "}"), (("least", 2, kept), f"2 of {kept or '-'}")):
                    self.assertEqual(sentence_text(sentence), text)
                    self.assertEqual(read_goal(f"{lamps}: {text}").sentence, sentence)
            listed = ("sets", *sets_of(lamps))
            self.assertEqual(read_goal(goal_text(Goal(lamps, listed))).sentence, listed)

    def test_lamps_that_spell_words(self):
        # The words not and or, and pieces of others, are sets, too.
        for text in ("not: not n", "not: {not, no, nt, -}", "not: (n or o or t)", "or: (o or r)", "or: 1 of or", "fo: 1 of fo",
                     "not: not not (n or not t)", "not: 2 of not", "not: not {not}", "adn: (a and d and n)", "n: not n"):
            goal = read_goal(text)
            self.assertEqual(goal_text(goal), text)
        for text in ("not: not", "not: not not", "or: or", "or: (o or or)", "not: nnot n", "not: not nnot"):
            self.assert_refused(read_goal, text)

    def test_there_and_back(self):
        random = Random("sentences")
        many = 0
        for _ in range(800):
            lamps = random.choice((*LAMPS, "not", "or"))
            sentence = drawn_sentence(random, lamps, 20)
            many = max(many, len(list(parts_of(sentence))))
            goal = read_goal(goal_text(Goal(lamps, sentence)))
            self.assertEqual((goal.lamps, goal.sentence), (lamps, sentence))
        self.assertGreater(many, 12)

    def test_texts_of_made_goals(self):
        self.assertEqual(goal_text(~Goal("a", ("lit", "a"))), "a: {-}")
        self.assertEqual(goal_text(Goal.of_sets("ab", "ab", "", "a")), "ab: {-, a, ab}")

    def test_twenty_parts(self):
        for many in (1, 2, 19):
            goal = read_goal("a: " + "not " * many + "a")
            self.assertEqual(goal.sentence, row_of_nots(many, ("lit", "a")))
        for many in (20, 21, 40, 499):
            self.assert_refused(read_goal, "a: " + "not " * many + "a")
        flat = "(a and a and a and a)"
        wide = read_goal(f"a: ({flat} or {flat} or {flat} or (a and a and a))")
        self.assertEqual(len(list(parts_of(wide.sentence))), 20)
        self.assert_refused(read_goal, f"a: ({flat} or {flat} or {flat} or {flat})")
        self.assert_refused(read_goal, f"a: ({flat} or {flat} or {flat} or (a and a and not a))")

    def test_deep_texts_are_refused(self):
        for text in ("not " * 499, "(" * 1990, "(not " * 399, "{" * 1990, "(a and " * 280, "(a or not " * 190,
                     "((" * 900 + "a" + "))" * 90):
            self.assert_refused(read_goal, "a: " + text)
            self.assert_refused(read_goal, text)

    def test_sixteen_sets(self):
        many = "{" + ", ".join(["a"] * 16) + "}"
        self.assertEqual(len(read_goal("a: " + many).sentence), 17)
        for count in (17, 18, 400):
            self.assert_refused(read_goal, "a: {" + ", ".join(["a"] * count) + "}")

    def test_wrong_texts(self):
        for text in WRONG_GOALS:
            self.assert_refused(read_goal, text.replace("_", " "))
        for text in ("", " ", "\n", ":", ": ", "a: a\n", "\na: a", "a:\na", "a: a\na: a", "a: a ", "ab: (a\nand b)"):
            self.assert_refused(read_goal, text)
        self.assert_refused(read_goal, "ab 1 0>0")

    def test_texts_near_to_right_ones(self):
        taken = [self.assert_near_texts(f"abc: {text}", read_goal, goal_text) for sentence, text in SENTENCES]
        self.assertGreater(sum(taken), 100)
        self.assert_near_texts("not: (n or not 2 of not)", read_goal, goal_text)

    def test_the_sentence_itself_counts(self):
        for one, other in (("a: a", "a: {a}"), ("ab: {a, b}", "ab: {b, a}"), ("a: {a}", "a: {a, a}")):
            self.assertEqual(read_goal(one), read_goal(other))
            self.assertNotEqual(read_goal(one).sentence, read_goal(other).sentence)
            self.assertEqual(goal_text(read_goal(other)), other)


class BoardTextTest(TextCase):
    def test_the_example(self):
        board = Board("ab", [1, 2], [(0, 1, "a"), (1, 0, ""), (1, 1, "ab")])
        self.assertEqual(board_text(board), "ab 12 0>1:a,1>0,1>1:ab")
        self.assertEqual(board_text(board=board), "ab 12 0>1:a,1>0,1>1:ab")
        for found in (read_board("ab 12 0>1:a,1>0,1>1:ab"), read_board(text="ab 12 0>1:a,1>0,1>1:ab")):
            self.assertIsInstance(found, Board)
            self.assertEqual(found, board)

    def test_there_and_back(self):
        random = Random("board texts")
        for lamps in LAMPS:
            for places in range(1, 13):
                board = any_board(random, lamps, places, random.randint(places, 80))
                text = board_text(board)
                self.assertEqual(read_board(text), board)
                self.assertEqual(text.split(" ")[:2], [lamps, "".join(map(str, board.owners()))])
                rows = [f"{a}>{b}:{lit}" if lit else f"{a}>{b}" for a, b, lit in board.arrows()]
                self.assertEqual(text.split(" ")[2:], [",".join(rows)])

    def test_twelve_and_thirteen_places(self):
        for places in (11, 12, 13, 14):
            text = f"a {'12' * 7}"[:2 + places] + " " + ",".join(f"{at}>{(at + 1) % places}" for at in range(places))
            if places <= 12:
                self.assertEqual(read_board(text).places, places)
            else:
                self.assert_refused(read_board, text)

    def test_eighty_and_eighty_one_arrows(self):
        self.assertEqual(len(read_board("a 1 " + ",".join(["0>0:a"] * 80))), 80)
        for many in (81, 82, 300):
            self.assert_refused(read_board, "a 1 " + ",".join(["0>0:a"] * many))

    def test_dead_ends(self):
        for text in ("a 12 0>1", "a 12 1>0", "a 111 0>1,1>0", "a 1 "):
            self.assert_refused(read_board, text)

    def test_wrong_texts(self):
        for text in WRONG_BOARDS:
            self.assert_refused(read_board, text.replace("_", " "))
        for text in ("", " ", "  ", "\n", "a 1 0>0\n", "\na 1 0>0", "a\n1 0>0", "a 1\n0>0", "a 1 0>0\na 1 0>0", "a 1 0>0:a\n"):
            self.assert_refused(read_board, text)
        self.assert_refused(read_board, "a 1 " + "0" * 1900 + ">0")
        self.assert_refused(read_board, "a: a")

    def test_texts_near_to_right_ones(self):
        taken = 0
        large = "ac 12121212121 0>10:a,10>0:ac," + ",".join(f"{at}>9" for at in range(1, 10))
        for text in ("ab 12 0>1:a,1>0,1>1:ab", "a 1 0>0", large):
            taken += self.assert_near_texts(text, read_board, board_text)
        self.assertGreater(taken, 100)


if __name__ == "__main__":
    unittest.main()
