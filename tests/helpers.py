"""What several tests need."""

import unittest
from itertools import combinations
from random import Random

from relitgoals.boards import Board
from relitgoals.goals import Goal
from relitgoals.plans import Plan
from relitgoals.tellers import Teller

LAMPS = ("a", "ab", "xz", "abc", "bdy", "abcd", "amyz")

# Neither lamps nor a set of any lamps.
NO_STRINGS = (0, 1, -1, True, False, None, (), ("a",), ("a", "b"), [], ["a"], [["a"], None], (("a",), 1))
WRONG_STRINGS = ("ba", "aa", "aab", "abca", "A", "aB", "AB", "1", "a1", " ", "a ", " a", "-", "a,b", "\n", "a\n", "\u00e9")

# No number at all, or none that is 0 or more.
NO_NUMBERS = (True, False, None, "", "0", "1", "a", (), (0,), (1,), [], [0], [1], [[1], "a"], -1, -2, -999999999)
NO_HANDS = (*NO_NUMBERS, 0, 3, 4, 999999999, "12", (1, 2), [1, 2])


class EqualCase(unittest.TestCase):
    def assert_equal(self, one, other, expected):
        self.assertIs(one == other, expected)
        self.assertIs(other == one, expected)
        self.assertIs(one != other, not expected)


def sets_of(lamps):
    """All sets of some lamps, smaller sets first, written down independently of the package."""
    return ["".join(letters) for size in range(len(lamps) + 1) for letters in combinations(lamps, size)]


def row_of_nots(many, inner):
    """A sentence inside so many nested "not"."""
    for _ in range(many):
        inner = ("not", inner)
    return inner


def goal_of_bits(lamps, bits):
    """The goal that holds for the sets whose bits are set."""
    return Goal.of_sets(lamps, *[kept for at, kept in enumerate(sets_of(lamps)) if bits >> at & 1])


def some_goals():
    """All goals over one, two and three lamps, and many over four."""
    for lamps in ("b", "ax", "abc"):
        yield from (goal_of_bits(lamps, bits) for bits in range(2 ** 2 ** len(lamps)))
    random = Random("four lamps")
    yield from (goal_of_bits("abcd", bits) for bits in (0, 2 ** 16 - 1, 1, 2 ** 15))
    yield from (goal_of_bits("cdyz", random.getrandbits(16)) for _ in range(150))
    for even in (0, 1):
        yield Goal.of_sets("abcd", *[kept for kept in sets_of("abcd") if len(kept) % 2 == even])


def any_board(random, lamps, places, arrows):
    """Some board with so many places and arrows."""
    origins = [*range(places), *[random.randrange(places) for _ in range(arrows - places)]]
    random.shuffle(origins)
    rows = [(origin, random.randrange(places), random.choice(sets_of(lamps))) for origin in origins]
    return Board(lamps, [random.choice((1, 2)) for _ in range(places)], rows)


def leaving_of(board, place):
    """The numbers of the arrows that leave a place, independently of the board's own answer."""
    return [number for number, arrow in enumerate(board.arrows()) if arrow[0] == place]


def any_tables(random, board, hand, notes):
    """The tables firsts, moves, nexts of some plan."""
    moves = [[random.choice(leaving_of(board, place)) if owner == hand else None
              for place, owner in enumerate(board.owners())] for _ in range(notes)]
    nexts = [[random.randrange(notes) for _ in board.arrows()] for _ in range(notes)]
    return [random.randrange(notes) for _ in board.owners()], moves, nexts


def any_plan(random, board, hand, notes):
    return Plan(board, hand, *any_tables(random, board, hand, notes))


def any_teller(random, lamps, rooms, most):
    """Some teller with so many rooms and numbers up to one."""
    return Teller(lamps, [[(random.randint(0, most), random.randrange(rooms)) for _ in sets_of(lamps)] for _ in range(rooms)])


def spread(starts, ahead):
    """All that is reached from some things by a function that gives the next ones."""
    found, waiting = set(starts), list(starts)
    while waiting:
        new = [thing for thing in ahead(waiting.pop()) if thing not in found]
        found.update(new)
        waiting.extend(new)
    return found


def kept_sets(plan, place):
    """The kept sets of all walks from a place that follow a plan, found by walking round with a bag of lamps."""
    arrows, moves, nexts = plan.board.arrows(), plan.moves(), plan.nexts()

    def steps(here, note):
        chosen = moves[note][here]
        for number in leaving_of(plan.board, here) if chosen is None else [chosen]:
            yield arrows[number][1], nexts[note][number], frozenset(arrows[number][2])

    def states_ahead(state):
        return [step[:2] for step in steps(*state)]

    def bags_ahead(bag):
        return [(here, note, bag[2] | lit) for here, note, lit in steps(*bag[:2])]

    found = set()
    for state in spread([(place, plan.firsts()[place])], states_ahead):
        bags = spread(bags_ahead((*state, frozenset())), bags_ahead)
        found.update(bag[2] for bag in bags if bag[:2] == state)
    return {"".join(sorted(kept)) for kept in found}


def wins(plan, goal, place):
    return all((kept in goal.sets()) == (plan.hand == 1) for kept in kept_sets(plan, place))


def same_values(one, other):
    """Whether two values are equal, and of the same kinds throughout, so that 1 is not True."""
    return repr(one) == repr(other) and one == other
