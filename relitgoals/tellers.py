"""Tellers: machines that read sets of lamps without end and tell by numbers whether a goal holds."""

from relitgoals.errors import InvalidSet, InvalidStep
from relitgoals.kinds import is_borne, is_index, is_row
from relitgoals.lamps import check_lamps, check_same_lamps, is_set, is_within, listed_sets, union
from relitgoals.nets import exits_of, loops, reached, ring_through, way_to
from relitgoals.trees import Tree, way_on

MOST_ROOMS = 40


def is_step(value, rooms):
    """Whether any value is a step to one of so many rooms."""
    return isinstance(value, tuple) and len(value) == 2 and is_borne(value[0]) and is_index(value[1], rooms)


def is_row_of_steps(value, lamps, rooms):
    """Whether any value has a step to one of so many rooms for each set of some lamps."""
    return is_row(value, len(listed_sets(lamps))) and all([is_step(step, rooms) for step in value])


def check_steps(lamps, steps):
    """Raises InvalidStep with the first room whose steps are wrong, or that is one too many, or with 0 for no room."""
    if not isinstance(steps, (list, tuple)) or len(steps) == 0:
        raise InvalidStep(0)
    for room, row in enumerate(steps):
        if room == MOST_ROOMS or not is_row_of_steps(row, lamps, len(steps)):
            raise InvalidStep(room)


def is_told(number):
    """What a teller tells if a number is the greatest of those that come without end."""
    return number % 2 == 0


class Teller:
    """A teller."""

    def __init__(self, lamps, steps):
        check_lamps(lamps)
        check_steps(lamps, steps)
        self.letters = lamps
        self.table = tuple([tuple(row) for row in steps])

    @property
    def lamps(self):
        """The lamps of the teller."""
        return self.letters

    def steps(self):
        """The list of the lists of the steps."""
        return [list(row) for row in self.table]

    def step(self, room, lit):
        """The step for a room and a set; raises InvalidStep, InvalidSet."""
        if not is_index(room, len(self.table)):
            raise InvalidStep(room)
        self.check_sets([lit])
        return self.step_for(room, lit)

    def numbers(self):
        """The ascending list of the numbers of all steps."""
        return sorted({number for row in self.table for number, room in row})

    def tells(self, lead, ring):
        """What the teller tells for a row of sets that begins with the lead and repeats the ring; raises InvalidSet."""
        self.check_sets([*lead, *ring])
        if len(ring) == 0:
            raise InvalidSet(None)
        room = self.read(0, lead)[1]
        seen = []
        borne = []
        while room not in seen:
            seen.append(room)
            numbers, room = self.read(room, ring)
            borne.append(max(numbers))
        # From the room that comes again, all goes on as it did then.
        return is_told(max(borne[seen.index(room):]))

    def check_sets(self, values):
        """Raises InvalidSet with the first of some values that is no set of the lamps."""
        for value in values:
            if not is_set(value, self.letters):
                raise InvalidSet(value)

    def step_for(self, room, lit):
        """The step for a room and a set, which are not checked."""
        return self.table[room][listed_sets(self.letters).index(lit)]

    def read(self, room, sets):
        """The list of the numbers of the steps for some sets from a room on, and the room behind them."""
        numbers = []
        for lit in sets:
            number, room = self.step_for(room, lit)
            numbers.append(number)
        return numbers, room

    def __eq__(self, other):
        return isinstance(other, Teller) and self.letters == other.letters and self.table == other.table

    def __len__(self):
        return len(self.table)

    def __repr__(self):
        return f"Teller({len(self.table)} rooms)"


def top_number(goal, height):
    """The number of a step of the least teller of a goal at the first set of a branch."""
    return height if is_told(height) == goal.holds_for(goal.lamps) else height - 1


def least_step(tree, branches, room, lit):
    """The step of the least teller in the room of a branch for a set."""
    depth = max([at for at, shown in enumerate(branches[room]) if is_within(lit, shown)])
    return (top_number(tree.goal, tree.height()) - depth, way_on(tree, branches, room, depth))


def least_teller(goal):
    """The least teller of a goal."""
    tree = Tree(goal)
    branches = list(tree.branches())
    sets = listed_sets(goal.lamps)
    steps = [[least_step(tree, branches, room, lit) for lit in sets] for room in range(len(branches))]
    return Teller(goal.lamps, steps)


def net_of_rooms(teller):
    """The list of the arrows between the rooms of a teller; the name of an arrow is its set and its number."""
    sets = listed_sets(teller.lamps)
    rows = [(room, lit, step) for room, row in enumerate(teller.steps()) for lit, step in zip(sets, row)]
    return [(room, end, (lit, number)) for room, lit, (number, end) in rows]


def sets_read(arrows):
    """The list of the sets for which some arrows between rooms stand."""
    return [lit for origin, end, (lit, number) in arrows]


def greatest_borne(arrows):
    """The greatest number of some arrows between rooms."""
    return max([number for origin, end, (lit, number) in arrows])


def wrong_loop(teller, goal, net):
    """A loop in a part of a teller's net that tells the wrong thing if all its arrows come without end, or None."""
    for kept in listed_sets(goal.lamps):
        for greatest in teller.numbers():
            if is_told(greatest) != goal.holds_for(kept):
                low = [arrow for arrow in net if is_within(arrow[2][0], kept) and arrow[2][1] <= greatest]
                for loop in loops(len(teller), low):
                    sets = sets_read(loop)
                    if union(*sets) == kept and greatest_borne(loop) == greatest:
                        return loop
    return None


def telling_arrows(loop):
    """Some arrows of a loop that light all that it lights, and the first one with its greatest number."""
    lighting = {lamp: arrow for arrow in loop for lamp in arrow[2][0]}
    greatest = [arrow for arrow in loop if arrow[2][1] == greatest_borne(loop)]
    return [*[lighting[lamp] for lamp in lighting], greatest[0]]


def wrong_row(teller, goal):
    """None if a teller is right for a goal, or a pair (lead, ring) for which it tells the wrong thing.

    Raises LampsDiffer.
    """
    check_same_lamps(teller.lamps, goal.lamps)
    net = net_of_rooms(teller)
    found = reached(exits_of(len(teller), net), [0])
    loop = wrong_loop(teller, goal, [arrow for arrow in net if arrow[0] in found])
    if loop is None:
        return None
    ring = ring_through(len(teller), loop, telling_arrows(loop))
    return sets_read(way_to(found, ring[0][0])), sets_read(ring)
