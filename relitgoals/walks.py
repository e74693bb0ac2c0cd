"""Walks along the arrows of a board, for ever, and what becomes of plans on them."""

from relitgoals.errors import BoardsDiffer, InvalidHand, InvalidWalk
from relitgoals.lamps import check_same_lamps, is_within, listed_sets, union
from relitgoals.nets import exits_of, loops, reached, ring_through, turned_back, way_to
from relitgoals.plans import Plan


def end_of_way(board, place, numbers, before):
    """The place to which some arrows lead from a place; raises InvalidWalk, where so many items stand before them."""
    here = place
    for index, number in enumerate(numbers, start=before):
        if not board.leaves(number, here):
            raise InvalidWalk(index)
        here = board.arrow_at(number)[1]
    return here


def check_way(board, place, lead, ring):
    """Raises InvalidWalk unless the lead can be walked from a place, and then the ring again and again."""
    begin = end_of_way(board, place, lead, 0)
    end = end_of_way(board, begin, ring, len(lead))
    if len(ring) == 0 or end != begin:
        raise InvalidWalk(len(lead) + len(ring))


def lit_by(board, numbers):
    """The set of the lamps that some arrows of a board light."""
    sets = [board.arrow_at(number)[2] for number in numbers]
    return union(*sets)


def note_behind(plan, note, numbers):
    """The note of a plan behind some arrows that are taken from a note on, or None if one of them is not its move."""
    for number in numbers:
        if not plan.allows(note, number):
            return None
        note = plan.next_note(note, number)
    return note


class Walk:
    """A walk: from a place along the lead, and then along the ring again and again."""

    def __init__(self, board, place, lead, ring):
        board.check_place(place)
        check_way(board, place, lead, ring)
        self.ground = board
        self.begin = place
        self.leading = tuple(lead)
        self.turning = tuple(ring)

    @property
    def board(self):
        """The board of the walk."""
        return self.ground

    @property
    def place(self):
        """The place where the walk begins."""
        return self.begin

    def lead(self):
        """The list of the numbers of the arrows of the lead."""
        return list(self.leading)

    def ring(self):
        """The list of the numbers of the arrows of the ring."""
        return list(self.turning)

    def kept(self):
        """The kept set."""
        return lit_by(self.ground, self.turning)

    def winner(self, goal):
        """The hand that wins the walk; raises LampsDiffer."""
        check_same_lamps(self.ground.lamps, goal.lamps)
        return goal.winning_hand(self.kept())

    def follows(self, plan):
        """Whether the walk follows a plan without end; raises BoardsDiffer."""
        if self.ground != plan.board:
            raise BoardsDiffer()
        note = note_behind(plan, plan.first_note(self.begin), self.leading)
        # With a note that the ring has begun with before, all goes on as it did then.
        seen = []
        while note is not None and note not in seen:
            seen.append(note)
            note = note_behind(plan, note, self.turning)
        return note is not None

    def told(self):
        """The walk in words."""
        kept = self.kept() or "-"
        return f"{len(self.leading)} arrows, then {len(self.turning)} again and again, keeps {kept}"

    def __eq__(self, other):
        return (isinstance(other, Walk) and self.ground == other.ground and self.begin == other.begin
                and self.leading == other.leading and self.turning == other.turning)

    def __len__(self):
        return len(self.turning)


def is_plan_of(value, hand):
    """Whether a value is a plan of a hand."""
    return isinstance(value, Plan) and value.hand == hand


def check_drive(one, two, place):
    """Raises InvalidHand, BoardsDiffer or InvalidPlace unless there is a walk from a place that follows both plans."""
    if not is_plan_of(one, 1):
        raise InvalidHand(2)
    if not is_plan_of(two, 2):
        raise InvalidHand(1)
    if one.board != two.board:
        raise BoardsDiffer()
    one.board.check_place(place)


def driven_way(one, two, place):
    """The lead and the ring of the walk from a place that follows a plan of hand one and a plan of hand two."""
    board = one.board
    numbers = []
    moments = {}
    moment = (place, one.first_note(place), two.first_note(place))
    while moment not in moments:
        moments[moment] = len(numbers)
        here, note, other = moment
        number = one.move_at(note, here) if board.owner_of(here) == 1 else two.move_at(other, here)
        numbers.append(number)
        moment = (board.arrow_at(number)[1], one.next_note(note, number), two.next_note(other, number))
    begin = moments[moment]
    return numbers[:begin], numbers[begin:]


class Drive(Walk):
    """The walk from a place that follows a plan of hand one and a plan of hand two."""

    def __init__(self, one, two, place):
        check_drive(one, two, place)
        lead, ring = driven_way(one, two, place)
        super().__init__(one.board, place, lead, ring)
        self.first = one
        self.second = two

    @property
    def one(self):
        """The plan of hand one."""
        return self.first

    @property
    def two(self):
        """The plan of hand two."""
        return self.second

    def told(self):
        """The walk in words, with the numbers of notes of both plans."""
        text = super().told()
        return f"{text}, notes {self.first.notes} and {self.second.notes}"


def moment_of(plan, place, note):
    """The number of the moment at which a walk that follows a plan stands at a place with a note."""
    return note * plan.board.places + place


def start_of(plan, place):
    """The number of the moment at which a walk begins that follows a plan from a place."""
    return moment_of(plan, place, plan.first_note(place))


def many_moments(plan):
    """The number of moments of a plan."""
    return plan.notes * plan.board.places


def step_between(plan, note, number):
    """The arrow between two moments that is an arrow of the board, taken with a note, and has its number as name."""
    arrow = plan.board.arrow_at(number)
    return (moment_of(plan, arrow[0], note), moment_of(plan, arrow[1], plan.next_note(note, number)), number)


def net_of(plan):
    """The list of the arrows between the moments of walks that follow a plan."""
    board = plan.board
    taken = [(note, at) for note in range(plan.notes) for at in range(len(board)) if plan.allows(note, at)]
    return [step_between(plan, note, number) for note, number in taken]


def names_of(steps):
    """The list of the numbers that arrows between moments have on the board."""
    return [step[2] for step in steps]


def breaking_loops(plan, goal, net):
    """The loops of a part of a plan's net whose arrows together light a set for which the other hand wins."""
    board = plan.board
    found = []
    for kept in listed_sets(goal.lamps):
        if goal.winning_hand(kept) != plan.hand:
            within = [step for step in net if is_within(board.arrow_at(step[2])[2], kept)]
            lighting = [loop for loop in loops(many_moments(plan), within) if lit_by(board, names_of(loop)) == kept]
            found.extend(lighting)
    return found


def lighting_steps(board, loop):
    """Some arrows of a loop that light all that it lights; at least one."""
    sets = [(lamp, step) for step in loop for lamp in board.arrow_at(step[2])[2]]
    # A dict keeps one arrow for each lamp.
    chosen = dict(sets)
    return sorted(set(list(chosen.values()))) or loop[:1]


def breaking_walk(plan, goal, place):
    """None if a plan wins from a place, or a walk from there that breaks it; raises LampsDiffer, InvalidPlace."""
    board = plan.board
    check_same_lamps(board.lamps, goal.lamps)
    board.check_place(place)
    many = many_moments(plan)
    net = net_of(plan)
    found = reached(exits_of(many, net), [start_of(plan, place)])
    broken = breaking_loops(plan, goal, [step for step in net if step[0] in found])
    if len(broken) == 0:
        return None
    ring = ring_through(many, broken[0], lighting_steps(board, broken[0]))
    lead = way_to(found, ring[0][0])
    return Walk(board, place, names_of(lead), names_of(ring))


def winning_places(plan, goal):
    """The ascending list of the places from which a plan wins; raises LampsDiffer."""
    board = plan.board
    check_same_lamps(board.lamps, goal.lamps)
    net = net_of(plan)
    broken = [step[0] for loop in breaking_loops(plan, goal, net) for step in loop]
    lost = reached(exits_of(many_moments(plan), turned_back(net)), broken)
    return [place for place in range(board.places) if start_of(plan, place) not in lost]
