"""Drafts of plans that win from all places that a hand wins, by the tree of the goal."""

from relitgoals.lamps import is_within
from relitgoals.plans import Plan
from relitgoals.pulls import pulled, without


class Draft:
    """A plan that is being made. It tells notes and moves only where they matter; its starts are the places it wins."""

    def __init__(self, many):
        self.many = many
        self.starts = {}
        self.choices = {}
        self.changes = {}

    def start_at(self, place):
        """The first note for a place."""
        return self.starts.get(place, 0)

    def note_after(self, note, arrow):
        """The note behind an arrow; where nothing is told, the walk begins anew at the place where it arrives."""
        return self.changes.get((note, arrow[2]), self.start_at(arrow[1]))

    def take_over(self, other):
        """Adds what a draft tells for other places; the same notes serve at both."""
        self.many = max(self.many, other.many)
        self.starts = {**self.starts, **other.starts}
        self.choices = {**self.choices, **other.choices}
        self.changes = {**self.changes, **other.changes}

    def take_pull(self, pull):
        """Adds the places from which the hand can make each walk arrive at those of the draft."""
        for place, arrow in pull.items():
            self.starts.setdefault(place, 0)
            if arrow is not None:
                self.choices[(0, place)] = arrow[2]


def lit_within(board, arrow, lit):
    """Whether the arrow of a board with the name of an arrow lights lamps of a set only."""
    return is_within(board.arrow_at(arrow[2])[2], lit)


def drafts_for(board, tree, arrows, lit):
    """For each hand a draft that wins from all places that it wins, if walks go along some arrows only.

    The names of the arrows are their numbers on the board, and they light lamps of the set only. The draft of a hand
    has at most as many notes as the worth of the set for it.
    """
    hand = tree.goal.winning_hand(lit)
    other = 3 - hand
    lost = Draft(1)
    parts = tree.parts(lit)
    phases = []
    while len(phases) < len(parts):
        part = parts[len(phases)]
        pull, inner = phase_for(board, tree, arrows, part)
        if len(inner[other].starts) == 0:
            phases.append((part, pull, inner[hand]))
        else:
            # The other hand keeps each walk within the part, or it comes to places that are lost already.
            lost.take_over(inner[other])
            lost.take_pull(pulled(board.owners(), other, inner[other].starts, [], arrows))
            arrows = without(arrows, lost.starts)
            phases = []
    won = draft_in_turn(board, arrows, phases) if phases else draft_of_any(board, hand, arrows)
    return {hand: won, other: lost}


def phase_for(board, tree, arrows, part):
    """The pull of the hand that does not win for a part to arrows that light more than it; the drafts beside the pull.

    Outside of the pull, walks light lamps of the part only, unless the other hand lets them into the pull.
    """
    passed = [arrow for arrow in arrows if not lit_within(board, arrow, part)]
    others = [arrow for arrow in arrows if lit_within(board, arrow, part)]
    pull = pulled(board.owners(), 3 - tree.goal.winning_hand(part), [], passed, others)
    return pull, drafts_for(board, tree, without(others, pull), part)


def draft_of_any(board, hand, arrows):
    """The draft for a hand that wins each walk along some arrows."""
    draft = Draft(1)
    draft.starts = {origin: 0 for origin, goal, number in arrows}
    draft.choices = {(0, origin): number for origin, goal, number in arrows if board.owner_of(origin) == hand}
    return draft


def draft_in_turn(board, arrows, phases):
    """The draft that plays the phases of all parts in turn: it goes on when an arrow lights more than the part.

    So either each part is left again and again, and the hand wins, or one phase lasts, and its own draft wins.
    """
    draft = Draft(sum([inner.many for part, pull, inner in phases]))
    draft.starts = {origin: phases[0][2].start_at(origin) for origin, goal, number in arrows}
    base = 0
    for at, (part, pull, inner) in enumerate(phases):
        ahead = (base + inner.many) % draft.many
        following = phases[(at + 1) % len(phases)][2]
        draft.choices = {**draft.choices, **choices_in_phase(pull, inner, base)}
        for arrow in arrows:
            stays = lit_within(board, arrow, part)
            for note in range(inner.many):
                behind = base + inner.note_after(note, arrow) if stays else ahead + following.start_at(arrow[1])
                draft.changes[(base + note, arrow[2])] = behind
        base = base + inner.many
    return draft


def choices_in_phase(pull, inner, base):
    """The choices of a phase whose notes begin with a number: those of the pull, and those of the draft beside it."""
    chosen = {(base + note, place): inner.choices[(note, place)] for note, place in inner.choices}
    for place, arrow in pull.items():
        if arrow is not None:
            # Each walk comes to the pull with the first note of the phase.
            chosen[(base, place)] = arrow[2]
    return chosen


def plan_of(board, hand, draft):
    """The plan of a hand for a board that does what a draft tells."""
    places = list(range(board.places))
    arrows = [(origin, goal, number) for number, (origin, goal, lit) in enumerate(board.arrows())]
    moves = [[move_of(board, hand, draft, note, place) for place in places] for note in range(draft.many)]
    nexts = [[draft.note_after(note, arrow) for arrow in arrows] for note in range(draft.many)]
    return Plan(board, hand, [draft.start_at(place) for place in places], moves, nexts)


def move_of(board, hand, draft, note, place):
    """The move of a plan for a note and a place: what a draft tells, or else the first arrow."""
    if board.owner_of(place) != hand:
        return None
    return draft.choices.get((note, place), board.leaving(place)[0])
