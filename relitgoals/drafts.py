"""Drafts of plans that win from all places that a hand wins, by the tree of the goal."""

from relitgoals.lamps import is_within
from relitgoals.plans import Plan
from relitgoals.pulls import pulled, without


class Draft:
    """A plan that is being made, for the places that it wins. It tells notes and moves only where they matter.

    Walks begin with the note 0 everywhere, and where no next note is told, they go on as if they began anew.
    """

    def __init__(self, many):
        self.many = many
        self.won = []
        self.choices = {}
        self.changes = {}

    def note_after(self, note, number):
        """The note behind an arrow that is taken with a note."""
        return self.changes.get((note, number), 0)

    def take_over(self, other, pull):
        """Adds what a draft tells for other places, and the pull of the hand to them; the same notes serve there."""
        ahead = choices_of_pull(pull, 0)
        self.many = max(self.many, other.many)
        self.won = [*self.won, *pull]
        self.choices = {**self.choices, **other.choices, **ahead}
        self.changes = {**self.changes, **other.changes}


def choices_of_pull(pull, note):
    """The choices by which a hand goes on in a pull, where walks have a note."""
    return {(note, place): arrow[2] for place, arrow in pull.items() if arrow is not None}


def lit_within(board, arrow, lit):
    """Whether the arrow of a board with the name of an arrow lights lamps of a set only."""
    return is_within(board.arrow_at(arrow[2])[2], lit)


def drafts_for(board, tree, arrows, lit):
    """For each hand a draft that wins from all places that it wins, if walks go along some arrows only.

    The names of the arrows are their numbers on the board, and they light lamps of the set only. The draft of a hand
    has at most as many notes as the worth of the set for it.
    """
    hand = tree.goal.winning_hand(lit)
    other = 3 - hand
    lost = Draft(1)
    parts = tree.parts(lit)
    phases = []
    while len(phases) < len(parts):
        part = parts[len(phases)]
        pull, inner = phase_for(board, tree, arrows, part)
        if len(inner[other].won) == 0:
            phases.append((part, pull, inner[hand]))
        else:
            # The other hand keeps each walk within the part, or it comes to places that are lost already.
            lost.take_over(inner[other], pulled(board.owners(), other, inner[other].won, [], arrows))
            arrows = without(arrows, lost.won)
            phases = []
    return {hand: draft_in_turn(board, arrows, phases) if phases else draft_of_any(arrows), other: lost}


def phase_for(board, tree, arrows, part):
    """The pull of the hand that does not win for a part to arrows that light more than it; the drafts beside the pull.

    Outside of the pull, walks light lamps of the part only, unless the other hand lets them into the pull.
    """
    passed = [arrow for arrow in arrows if not lit_within(board, arrow, part)]
    others = [arrow for arrow in arrows if lit_within(board, arrow, part)]
    pull = pulled(board.owners(), 3 - tree.goal.winning_hand(part), [], passed, others)
    return pull, drafts_for(board, tree, without(others, pull), part)


def origins_of(arrows):
    """The list of the places that some arrows leave."""
    return sorted({origin for origin, goal, number in arrows})


def draft_of_any(arrows):
    """The draft for a hand that wins each walk along some arrows."""
    draft = Draft(1)
    draft.won = origins_of(arrows)
    draft.choices = {(0, origin): number for origin, goal, number in arrows}
    return draft


def draft_in_turn(board, arrows, phases):
    """The draft that plays the phases of all parts in turn: it goes on when an arrow lights more than the part.

    So either each part is left again and again, and the hand wins, or one phase lasts, and its own draft wins.
    """
    draft = Draft(sum([inner.many for part, pull, inner in phases]))
    draft.won = origins_of(arrows)
    base = 0
    for part, pull, inner in phases:
        ahead = (base + inner.many) % draft.many
        draft.choices = {**draft.choices, **choices_in_phase(pull, inner, base)}
        for arrow in arrows:
            stays = lit_within(board, arrow, part)
            for note in range(inner.many):
                behind = base + inner.note_after(note, arrow[2]) if stays else ahead
                draft.changes[(base + note, arrow[2])] = behind
        base = base + inner.many
    return draft


def choices_in_phase(pull, inner, base):
    """The choices of a phase whose notes begin with a number: those of the pull, and those of the draft beside it."""
    chosen = {(base + note, place): inner.choices[(note, place)] for note, place in inner.choices}
    # Each walk comes to the pull with the first note of the phase.
    ahead = choices_of_pull(pull, base)
    return {**chosen, **ahead}


def plan_of(board, hand, draft):
    """The plan of a hand for a board that does what a draft tells."""
    notes = list(range(draft.many))
    moves = [[move_of(board, hand, draft, note, place) for place in range(board.places)] for note in notes]
    nexts = [[draft.note_after(note, number) for number in range(len(board))] for note in notes]
    return Plan(board, hand, [0] * board.places, moves, nexts)


def move_of(board, hand, draft, note, place):
    """The move of a plan for a note and a place: what a draft tells, or else the first arrow."""
    if board.owner_of(place) != hand:
        return None
    return draft.choices.get((note, place), board.leaving(place)[0])
