import unittest
from itertools import product
from random import Random

from relitgoals.errors import InvalidLamps, InvalidSet, InvalidStep
from relitgoals.tellers import Teller
from tests.helpers import LAMPS, NO_NUMBERS, NO_STRINGS, WRONG_STRINGS, EqualCase, any_teller, same_values, sets_of

# Two rooms for the sets -, a, b, ab.
STEPS = [[(0, 0), (2, 1), (0, 0), (5, 1)], [(1, 1), (1, 1), (4, 0), (5, 0)]]
NO_SETS = (*NO_STRINGS, *WRONG_STRINGS, "c", "abc")


def wrong_steps():
    """Values that are no steps of a teller with two rooms."""
    yield from (None, True, False, 0, 1, "", "00", "01", (), (0,), (0, 1, 0), [], [0, 0], [0, 1], ((0, 1),), [(0, 1)], (0, (1,)))
    yield from ((wrong, 0) for wrong in (*NO_NUMBERS, 100, 101, 999999999))
    yield from ((0, wrong) for wrong in (*NO_NUMBERS, 2, 3, 40, 999999999))


def wrong_rows():
    """Values that are no row of steps of a teller with two rooms and two lamps."""
    yield from (None, True, False, 0, 4, "", "0000", "abcd", (), [], [None] * 4, (1, 2, 3, 4), {}, ((0, 0), (0, 0)))
    yield from (STEPS[0][:3], [*STEPS[0], (0, 0)], STEPS[0] * 2, [STEPS[0]], STEPS, [(0, 0)] * 16)


class TellerCase(unittest.TestCase):
    def assert_raises(self, error, attribute, value, call, *args):
        with self.assertRaises(error) as caught:
            call(*args)
        found = getattr(caught.exception, attribute)
        self.assertTrue(same_values(found, value), (found, value))


class MadeTest(TellerCase):
    def test_what_it_has(self):
        teller = Teller("ab", STEPS)
        self.assertEqual((teller.lamps, teller.steps(), len(teller)), ("ab", STEPS, 2))
        self.assertEqual(teller.numbers(), [0, 1, 2, 4, 5])
        self.assertEqual(repr(teller), "Teller(2 rooms)")
        for room, (at, lit) in product((0, 1), enumerate(("", "a", "b", "ab"))):
            self.assertEqual(teller.step(room, lit), STEPS[room][at])

    def test_tuples_and_names(self):
        for teller in (Teller(steps=tuple(tuple(row) for row in STEPS), lamps="ab"), Teller("ab", (STEPS[0], tuple(STEPS[1])))):
            self.assertEqual(teller.steps(), STEPS)
            self.assertEqual([type(rows) for rows in (teller.steps(), *teller.steps())], [list] * 3)
        self.assertEqual(teller.step(lit="b", room=1), (4, 0))
        self.assertIs(teller.tells(ring=["a"], lead=[]), False)

    def test_many_tellers(self):
        random = Random("tellers")
        for lamps in LAMPS:
            for rooms in (1, 2, 7, 39, 40):
                teller = any_teller(random, lamps, rooms, 99)
                steps = teller.steps()
                self.assertEqual((len(teller), repr(teller)), (rooms, f"Teller({rooms} rooms)"))
                self.assertEqual(teller.numbers(), sorted({step[0] for row in steps for step in row}))
                for room, row in enumerate(steps):
                    self.assertEqual([teller.step(room, lit) for lit in sets_of(lamps)], row)

    def test_numbers_and_rooms_at_the_edges(self):
        rows = [[(0, 39), (99, 0)]] * 40
        teller = Teller("a", rows)
        self.assertEqual((len(teller), teller.numbers()), (40, [0, 99]))
        self.assertEqual(len(Teller("a", [[(0, 0), (0, 0)]])), 1)

    def test_lists_that_are_changed_behind_the_call(self):
        steps = [list(row) for row in STEPS]
        teller = Teller("ab", steps)
        self.assertEqual(steps, STEPS)
        steps[0][0] = (9, 1)
        steps[1].append((0, 0))
        steps.pop()
        self.assertEqual((teller.steps(), len(teller)), (STEPS, 2))

    def test_returned_lists_are_new(self):
        teller = Teller("ab", STEPS)
        changed = teller.steps()
        changed[0][0] = (9, 9)
        changed.pop()
        teller.numbers().append(7)
        self.assertEqual((teller.steps(), teller.numbers()), (STEPS, [0, 1, 2, 4, 5]))

    def test_tellers_never_change(self):
        with self.assertRaises(AttributeError):
            Teller("ab", STEPS).lamps = "a"


class ErrorsTest(TellerCase):
    def test_lamps(self):
        for lamps in (*NO_STRINGS, *WRONG_STRINGS, "", "abcde"):
            for steps in (STEPS, [], None):
                self.assert_raises(InvalidLamps, "given", lamps, Teller, lamps, steps)

    def test_no_room(self):
        for empty in ([], ()):
            self.assert_raises(InvalidStep, "room", 0, Teller, "ab", empty)
        for value in (None, True, 0, 1, "", "abcd"):
            self.assert_raises(InvalidStep, "room", 0, Teller, "ab", value)

    def test_forty_rooms(self):
        row = [(1, 0), (2, 39)]
        self.assertEqual(len(Teller("a", [row] * 40)), 40)
        for many in (41, 42, 60):
            self.assert_raises(InvalidStep, "room", 40, Teller, "a", [row] * many)
            self.assert_raises(InvalidStep, "room", 3, Teller, "a", [*[row] * 3, None, *[row] * (many - 4)])
            self.assert_raises(InvalidStep, "room", 40, Teller, "a", [*[row] * 40, None])

    def test_steps_to_rooms_behind_the_fortieth(self):
        for end in (39, 40, 41):
            rows = [[(1, end), (2, 0)]] * 42
            self.assert_raises(InvalidStep, "room", 40, Teller, "a", rows)
        self.assert_raises(InvalidStep, "room", 0, Teller, "a", [[(1, 42), (2, 0)]] * 42)
        self.assert_raises(InvalidStep, "room", 0, Teller, "a", [[(1, 40), (2, 0)]] * 40)

    def test_one_wrong_step_at_each_place(self):
        for wrong in wrong_steps():
            for room, at in product((0, 1), range(4)):
                rows = [list(row) for row in STEPS]
                rows[room][at] = wrong
                with self.subTest(wrong=wrong, room=room, at=at):
                    self.assert_raises(InvalidStep, "room", room, Teller, "ab", rows)

    def test_one_wrong_row_at_each_room(self):
        for wrong in wrong_rows():
            for room in (0, 1):
                rows = [list(row) for row in STEPS]
                rows[room] = wrong
                with self.subTest(wrong=wrong, room=room):
                    self.assert_raises(InvalidStep, "room", room, Teller, "ab", rows)
            self.assert_raises(InvalidStep, "room", 0, Teller, "ab", [wrong, None])

    def test_as_many_steps_as_sets(self):
        for lamps, many in (("a", 2), ("ab", 4), ("abc", 8), ("abcd", 16)):
            for given in (many - 1, many, many + 1):
                if given == many:
                    Teller(lamps, [[(0, 0)] * given])
                else:
                    self.assert_raises(InvalidStep, "room", 0, Teller, lamps, [[(0, 0)] * given])

    def test_step(self):
        teller = Teller("ab", STEPS)
        for room in (*NO_NUMBERS, 2, 3, 40, 999999999):
            for lit in ("a", "c", None):
                self.assert_raises(InvalidStep, "room", room, teller.step, room, lit)
        for lit in NO_SETS:
            self.assert_raises(InvalidSet, "given", lit, teller.step, 1, lit)


class TellsTest(TellerCase):
    def told(self, teller, lead, ring):
        """What a teller tells, by walking for a long time."""
        row = [*lead, *ring * len(teller)]
        room = 0
        for lit in row:
            room = teller.step(room, lit)[1]
        numbers = []
        for lit in ring * len(teller):
            number, room = teller.step(room, lit)
            numbers.append(number)
        return max(numbers) % 2 == 0

    def test_examples(self):
        teller = Teller("ab", STEPS)
        self.assertIs(teller.tells([], [""]), True)
        self.assertIs(teller.tells([], ["a"]), False)
        self.assertIs(teller.tells(["a"], ["b"]), True)
        self.assertIs(teller.tells(["a", "b"], [""]), True)
        self.assertIs(teller.tells([], ["a", "b"]), True)
        self.assertIs(teller.tells((), ("ab",)), False)
        self.assertIs(teller.tells(("ab",), ("b", "a")), True)

    def test_many(self):
        random = Random("tells")
        seen = {True: 0, False: 0}
        for _ in range(400):
            lamps = random.choice(LAMPS)
            teller = any_teller(random, lamps, random.randint(1, 6), random.choice((1, 3, 99)))
            lead = [random.choice(sets_of(lamps)) for _ in range(random.randint(0, 4))]
            ring = [random.choice(sets_of(lamps)) for _ in range(random.randint(1, 4))]
            given = (list(lead), list(ring))
            found = teller.tells(lead, ring)
            self.assertIs(found, self.told(teller, lead, ring))
            self.assertEqual((lead, ring), given)
            seen[found] += 1
        self.assertGreater(min(seen.values()), 100)

    def test_only_what_comes_without_end_counts(self):
        # The ring is read twice before it comes again to a room where it began.
        teller = Teller("a", [[(9, 1), (9, 1)], [(7, 2), (7, 2)], [(0, 2), (2, 2)]])
        self.assertIs(teller.tells([], [""]), True)
        self.assertIs(teller.tells(["a", "a"], ["a"]), True)

    def test_wrong_sets(self):
        teller = Teller("ab", STEPS)
        for wrong in NO_SETS:
            for lead, ring in (([wrong], ["a"]), (["a", wrong], ["b"]), ([], [wrong]), (["a"], ["a", "b", wrong]),
                               ([wrong], []), ([wrong, None], [None]), (["a"], [wrong, "cc"])):
                self.assert_raises(InvalidSet, "given", wrong, teller.tells, lead, ring)

    def test_an_empty_ring(self):
        teller = Teller("ab", STEPS)
        for lead in ([], ["a"], ["", "ab"], ()):
            for empty in ([], ()):
                self.assert_raises(InvalidSet, "given", None, teller.tells, lead, empty)
        self.assert_raises(InvalidSet, "given", "c", teller.tells, ["c"], [])


class EqualTest(EqualCase):
    def test_equal(self):
        teller = Teller("ab", STEPS)
        self.assert_equal(teller, Teller("ab", [tuple(row) for row in STEPS]), True)
        self.assert_equal(teller, Teller("ac", STEPS), False)
        self.assert_equal(teller, Teller("ab", STEPS[:1] * 2), False)
        self.assert_equal(Teller("a", [[(0, 0)] * 2]), Teller("a", [[(0, 0)] * 2] * 2), False)
        for room, at in product((0, 1), range(4)):
            rows = [list(row) for row in STEPS]
            rows[room][at] = (6, 0)
            self.assert_equal(teller, Teller("ab", rows), False)

    def test_other_values(self):
        teller = Teller("ab", STEPS)
        for other in (None, 0, True, "", "ab", repr(teller), STEPS, tuple(STEPS), {}, object(), Teller):
            self.assert_equal(teller, other, False)


if __name__ == "__main__":
    unittest.main()
