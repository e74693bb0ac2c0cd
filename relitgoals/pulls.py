"""Pulls: places from which a hand can make each walk arrive. Arrows are triples (origin, goal, name)."""


def entries_of(arrows):
    """The dict that has the list of the arrows that lead to a place, for each place with such arrows."""
    entries = {}
    for arrow in arrows:
        entries.setdefault(arrow[1], []).append(arrow)
    return entries


def counted_exits(arrows):
    """The dict that has the number of the arrows that leave a place, for each place with such arrows."""
    counts = {}
    for arrow in arrows:
        counts[arrow[0]] = counts.get(arrow[0], 0) + 1
    return counts


def pulled(hands, hand, places, passed, others):
    """The places from which a hand makes each walk arrive at some places or pass one of the arrows that are passed.

    Walks go along the arrows of both lists, passed and others; hands has the owner of each place. Returns a dict with
    the arrow by which the hand goes on from a place of its own, and None for each other place.
    """
    entries = entries_of(others)
    left = counted_exits([*passed, *others])
    found = {place: None for place in places}
    waiting = [*passed, *[arrow for place in found for arrow in entries.get(place, [])]]
    while waiting:
        arrow = waiting.pop()
        origin = arrow[0]
        if origin not in found:
            left[origin] -= 1
            if hands[origin] == hand or left[origin] == 0:
                found[origin] = arrow if hands[origin] == hand else None
                waiting.extend(entries.get(origin, []))
    return found


def without(arrows, places):
    """The list of the arrows that neither leave nor enter one of some places."""
    return [arrow for arrow in arrows if arrow[0] not in places and arrow[1] not in places]
