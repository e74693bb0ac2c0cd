"""The tree of a goal: sets of lamps, below each one its parts, for which the other hand wins."""

from relitgoals.errors import InvalidSet
from relitgoals.kinds import check_hand
from relitgoals.lamps import is_set, is_within, listed_sets


def parts_of_set(goal, whole):
    """The tuple of the parts of a set, in ascending order."""
    winner = goal.winning_hand(whole)
    unlike = [lit for lit in listed_sets(whole) if goal.winning_hand(lit) != winner]
    return tuple(sorted([lit for lit in unlike if not is_within_another(lit, unlike)]))


def is_within_another(lit, sets):
    """Whether a set is within one of some sets other than itself."""
    return any([lit != other and is_within(lit, other) for other in sets])


def branches_from(lit, below):
    """The list of the branches that go down from a set, in order; below has the tuple of the next sets for each set."""
    if len(below[lit]) == 0:
        return [(lit,)]
    return [(lit, *rest) for part in below[lit] for rest in branches_from(part, below)]


class Tree:
    """The tree of a goal."""

    def __init__(self, goal):
        self.aim = goal
        self.below = {lit: parts_of_set(goal, lit) for lit in listed_sets(goal.lamps)}
        self.rows = tuple(branches_from(goal.lamps, self.below))

    @property
    def goal(self):
        """The goal of the tree."""
        return self.aim

    def parts(self, lit):
        """The list of the parts of a set; raises InvalidSet."""
        if not is_set(lit, self.aim.lamps):
            raise InvalidSet(lit)
        return list(self.below[lit])

    def branches(self):
        """Yields the branches, in order."""
        yield from self.rows

    def height(self):
        """The length of the longest branch."""
        return max([len(branch) for branch in self.rows])

    def worth(self, hand):
        """The worth of the goal for a hand; raises InvalidHand."""
        check_hand(hand)
        return self.worth_of(self.aim.lamps, hand)

    def ways(self, hand):
        """The list of the ways of a hand; raises InvalidHand."""
        check_hand(hand)
        kept = {lit: self.kept_parts(lit, hand) for lit in self.below}
        return branches_from(self.aim.lamps, kept)

    def worth_of(self, lit, hand):
        """The worth of a set for a hand."""
        worths = [self.worth_of(part, hand) for part in self.below[lit]]
        if len(worths) == 0:
            return 1
        return sum(worths) if self.aim.winning_hand(lit) == hand else max(worths)

    def kept_parts(self, lit, hand):
        """The tuple of the parts of a set with which ways of a hand go on."""
        parts = self.below[lit]
        if len(parts) == 0 or self.aim.winning_hand(lit) == hand:
            return parts
        worths = [self.worth_of(part, hand) for part in parts]
        return (parts[worths.index(max(worths))],)

    def __len__(self):
        return len(self.rows)

    def __repr__(self):
        return f"Tree({len(self.rows)} branches)"


def way_on(tree, rows, index, depth):
    """The index of the way, among some rows of ways or branches, to which one of them turns at its set with an index.

    That is the first one that agrees with it up to this set and goes on with the part that comes behind the one here,
    or with the first part if that one is the last. Nothing changes at the end of a way.
    """
    way = rows[index]
    if depth == len(way) - 1:
        return index
    parts = tree.parts(way[depth])
    following = parts[(parts.index(way[depth + 1]) + 1) % len(parts)]
    begins = [row[:depth + 2] for row in rows]
    return begins.index((*way[:depth + 1], following))
