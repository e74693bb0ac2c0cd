"""Who wins from each place of a board, by which plan; and who wins where the greatest number decides."""

from relitgoals.boards import check_exits, check_hands, is_between
from relitgoals.drafts import drafts_for, plan_of
from relitgoals.errors import InvalidArrow
from relitgoals.kinds import HANDS, check_hand, is_borne
from relitgoals.lamps import check_same_lamps
from relitgoals.nets import exits_of
from relitgoals.pulls import pulled, without
from relitgoals.trees import Tree


class Solution:
    """The places of a board that each hand wins for a goal, and plans that win from them."""

    def __init__(self, board, goal):
        check_same_lamps(board.lamps, goal.lamps)
        arrows = [(origin, end, number) for number, (origin, end, lit) in enumerate(board.arrows())]
        drafts = drafts_for(board, Tree(goal), arrows, goal.lamps)
        self.ground = board
        self.aim = goal
        self.lots = {hand: sorted(drafts[hand].won) for hand in HANDS}
        self.plans = {hand: plan_of(board, hand, drafts[hand]) for hand in HANDS}

    @property
    def board(self):
        """The board of the solution."""
        return self.ground

    @property
    def goal(self):
        """The goal of the solution."""
        return self.aim

    def lot(self, hand):
        """The ascending list of the places that a hand wins; raises InvalidHand."""
        check_hand(hand)
        return list(self.lots[hand])

    def plan(self, hand):
        """A plan that wins from all places that a hand wins; raises InvalidHand."""
        check_hand(hand)
        return self.plans[hand]

    def winner(self, place):
        """The hand that wins from a place; raises InvalidPlace."""
        self.ground.check_place(place)
        return 1 if place in self.lots[1] else 2

    def __repr__(self):
        return f"Solution({len(self.lots[1])} and {len(self.lots[2])} places)"


def is_numbered_arrow(value, places):
    """Whether any value is an arrow with a number between some of so many places."""
    return is_between(value, places) and is_borne(value[2])


def number_winners(owners, arrows):
    """The list of the winning hands of the places; raises InvalidOwner, InvalidArrow, DeadEnd."""
    check_hands(owners, None)
    for index, arrow in enumerate(arrows):
        if not is_numbered_arrow(arrow, len(owners)):
            raise InvalidArrow(index)
    check_exits(exits_of(len(owners), arrows))
    found = winners_along(owners, arrows)
    return [found[place] for place in range(len(owners))]


def winners_along(hands, arrows):
    """The dict of the winning hands of all places that some arrows leave; each place that one enters is left, too."""
    greatest = max([number for origin, end, number in arrows], default=0)
    hand = 1 if greatest % 2 == 0 else 2
    found = {arrow[0]: hand for arrow in arrows}
    lost = lost_beside(hands, hand, arrows, greatest)
    while lost:
        taken = pulled(hands, 3 - hand, lost, [], arrows)
        found.update({place: 3 - hand for place in taken})
        arrows = without(arrows, taken)
        lost = lost_beside(hands, hand, arrows, greatest)
    # From the rest, the hand comes to the greatest number again and again, or wins without it.
    return found


def lost_beside(hands, hand, arrows, greatest):
    """The list of the places that a hand loses among those from where it cannot come to the greatest number at all."""
    passed = [arrow for arrow in arrows if arrow[2] == greatest]
    others = [arrow for arrow in arrows if arrow[2] != greatest]
    beside = without(others, pulled(hands, hand, [], passed, others))
    if len(beside) == 0:
        return []
    inner = winners_along(hands, beside)
    return [place for place in inner if inner[place] != hand]
