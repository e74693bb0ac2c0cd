"""Nets: nodes, which are numbers from 0 on, and arrows between them, which are triples (origin, goal, name)."""


def exits_of(many, arrows):
    """The list that has, for each of so many nodes, the list of the arrows that leave it."""
    exits = [[] for node in range(many)]
    for arrow in arrows:
        exits[arrow[0]].append(arrow)
    return exits


def turned_back(arrows):
    """The list of the arrows with origin and goal exchanged."""
    return [(goal, origin, name) for origin, goal, name in arrows]


def reached(exits, starts):
    """The nodes that are reached from some nodes: a dict with the last arrow of a shortest way, None for a start."""
    found = {node: None for node in starts}
    waiting = list(found)
    while waiting:
        ahead = [arrow for node in waiting for arrow in exits[node]]
        waiting = []
        for arrow in ahead:
            if arrow[1] not in found:
                found[arrow[1]] = arrow
                waiting.append(arrow[1])
    return found


def way_to(found, node):
    """The list of the arrows of a shortest way to a node; found is what reached returns."""
    way = []
    while found[node] is not None:
        way.append(found[node])
        node = found[node][0]
    return way[::-1]


def leaving_order(exits):
    """The nodes in the order in which a search leaves them that goes on from the newest node as long as it can."""
    order = []
    entered = {}
    for root in range(len(exits)):
        waiting = [(root, False)]
        while waiting:
            node, done = waiting.pop()
            if done:
                order.append(node)
            elif node not in entered:
                entered[node] = True
                waiting.append((node, True))
                waiting.extend([(arrow[1], False) for arrow in exits[node]])
    return order


def knots(many, arrows):
    """The list that has a number for each node: two nodes have the same one if each is reached from the other."""
    entries = exits_of(many, turned_back(arrows))
    found = [None] * many
    # Against the arrows, the node that was left last reaches nothing but its own knot and those that are done.
    for root in leaving_order(exits_of(many, arrows))[::-1]:
        waiting = [root]
        while waiting:
            node = waiting.pop()
            if found[node] is None:
                found[node] = root
                waiting.extend([arrow[1] for arrow in entries[node]])
    return found


def loops(many, arrows):
    """The lists of the arrows that stay in one knot: a way can pass all arrows of such a list without end."""
    knot = knots(many, arrows)
    rows = {}
    for arrow in arrows:
        if knot[arrow[0]] == knot[arrow[1]]:
            rows.setdefault(knot[arrow[0]], []).append(arrow)
    return list(rows.values())


def ring_through(many, loop, passed):
    """The list of the arrows of a way in a loop that passes some of its arrows and ends where it begins."""
    exits = exits_of(many, loop)
    node = passed[-1][1]
    way = []
    for arrow in passed:
        found = reached(exits, [node])
        way.extend(way_to(found, arrow[0]))
        way.append(arrow)
        node = arrow[1]
    return way
