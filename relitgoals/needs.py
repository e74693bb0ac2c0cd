"""How many notes a goal needs: a board on which fewer are not enough, and what beats a plan with fewer notes there."""

from relitgoals.boards import Board
from relitgoals.errors import BoardsDiffer, InvalidHand, NotesEnough, NoTestBoard
from relitgoals.plans import Plan
from relitgoals.trees import Tree, way_on


def tested_tree(goal):
    """The tree of a goal that has a test board; raises NoTestBoard."""
    if len(goal) == 0:
        raise NoTestBoard()
    return Tree(goal)


def returning_arrows(tree):
    """For each arrow of the test board back to the place 0, in order: its way, the index of its set there, its lamps.

    The way is given by its index, and its set is the one for which the arrow stands.
    """
    found = []
    for index, way in enumerate(tree.ways(1)):
        for depth, lit in enumerate(way):
            if tree.goal.holds_for(lit):
                others = [part for part in tree.parts(lit) if part not in way[depth + 1:depth + 2]]
                found.extend([(index, depth, shown) for shown in [*others, lit]])
    return found


def test_board(goal):
    """The test board of a goal; raises NoTestBoard."""
    tree = tested_tree(goal)
    many = tree.worth(1)
    ahead = [(0, index + 1, "") for index in range(many)]
    back = [(index + 1, 0, shown) for index, depth, shown in returning_arrows(tree)]
    return Board(goal.lamps, [1] + [2] * many, [*ahead, *back])


def test_plan(goal):
    """The test plan of a goal, which wins from the place 0 of the test board; raises NoTestBoard."""
    tree = tested_tree(goal)
    ways = tree.ways(1)
    many = len(ways)
    behind = [way_on(tree, ways, index, depth) for index, depth, shown in returning_arrows(tree)]
    moves = [[note] + [None] * many for note in range(many)]
    nexts = [[note] * many + behind for note in range(many)]
    return Plan(test_board(goal), 1, [0] * (many + 1), moves, nexts)


def check_short(goal, plan, many):
    """Raises BoardsDiffer, InvalidHand, NotesEnough unless a plan of hand one has fewer notes than so many."""
    if plan.board != test_board(goal):
        raise BoardsDiffer()
    if plan.hand != 1:
        raise InvalidHand(2)
    if plan.notes >= many:
        raise NotesEnough(plan.notes)


def missed_way(plan, many):
    """The index of the first way of so many that a plan for a test board does not choose at the place 0."""
    chosen = [plan.move_at(note, 0) for note in range(plan.notes)]
    # The arrows that leave the place 0 have the numbers of their ways.
    return [index for index in range(many) if index not in chosen][0]


def agreeing(one, other):
    """The index of the last set up to which two different ways agree."""
    agree = [one[:size] == other[:size] for size in range(1, len(one) + 1)]
    return agree.index(False) - 1


def replying_move(ways, missed, index, returning):
    """The move of the reply at the place of the way with an index, where the missed way is beaten."""
    if index == missed:
        numbers = [number for number, (origin, depth, shown) in enumerate(returning) if origin == index]
        return len(ways) + numbers[0]
    depth = agreeing(ways[missed], ways[index])
    return len(ways) + returning.index((index, depth, ways[missed][depth + 1]))


def reply(goal, plan):
    """The plan of hand two that beats a plan with too few notes.

    Raises NoTestBoard, BoardsDiffer, InvalidHand, NotesEnough.
    """
    tree = tested_tree(goal)
    ways = tree.ways(1)
    many = len(ways)
    check_short(goal, plan, many)
    returning = returning_arrows(tree)
    missed = missed_way(plan, many)
    moves = [replying_move(ways, missed, index, returning) for index in range(many)]
    return Plan(plan.board, 2, [0] * (many + 1), [[None, *moves]], [[0] * (many + len(returning))])
