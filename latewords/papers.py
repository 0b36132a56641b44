"""Papers: what shows that a talk stalls, that it never does, or what share of its turns does (point 20)."""

from math import gcd

from latewords.conversations import MOST_WRITES
from latewords.errors import BadOrder
from latewords.integers import is_integer
from latewords.outcomes import outcome
from latewords.positions import Positions
from latewords.turngraphs import TurnGraph, is_arc, is_station
from latewords.worst import best_ring, first_stall, ring_share


def stall_paper(talk, setting):
    """Return a paper of a conversation that stalls, or None if none does."""
    found = first_stall(talk, setting)
    if found is None:
        return None
    path, order = found
    return ("stall", path, order)


def never_paper(talk, setting):
    """Return a paper that no conversation stalls, or None if one does."""
    positions = Positions(talk, setting)
    waiting = positions.first_ones()
    seen = {position: True for position in waiting}
    while waiting:
        position = waiting.pop()
        if positions.may_stall(position):
            return None
        for after in positions.following(position):
            if after not in seen:
                seen[after] = True
                waiting.append(after)
    return ("never", list(seen))


def share_paper(talk, setting):
    """Return a paper of the greatest share of stalled turns, or None if there is no cycle."""
    graph = TurnGraph(talk, setting)
    ring = best_ring(graph)
    if ring is None:
        return None
    stalled, turns = ring_share(ring)
    return ("share", stalled, turns, ring, list(least_heights(graph, stalled, turns).items()))


def least_heights(graph, stalled, turns):
    """Return a dict from each station to the least height from 0 on with which the greatest share holds."""
    arcs = graph.arcs()
    heights = {station: 0 for station in graph.stations()}
    # No cycle has a greater share, so no cycle lifts a station again and again.
    is_changed = True
    while is_changed:
        is_changed = False
        for first, second, stalls in arcs:
            needed = heights[second] + stalls * turns - stalled
            if needed > heights[first]:
                heights[first] = needed
                is_changed = True
    return heights


def holds(talk, setting, paper):
    """Tell whether any value is a paper that holds."""
    if not isinstance(paper, tuple) or len(paper) == 0:
        return False
    if paper[0] == "stall" and len(paper) == 3:
        return stall_holds(talk, setting, paper[1], paper[2])
    if paper[0] == "never" and len(paper) == 2:
        return never_holds(talk, setting, paper[1])
    if paper[0] == "share" and len(paper) == 5:
        return share_holds(TurnGraph(talk, setting), paper)
    return False


def stall_holds(talk, setting, path, order):
    """Tell whether any two values are a path and an order in which it stalls."""
    if path not in talk or len(path) > MOST_WRITES or not isinstance(order, list):
        return False
    try:
        return outcome(setting, talk.conversation(path), order).stalls > 0
    except BadOrder:
        return False


def never_holds(talk, setting, items):
    """Tell whether any value is a list of positions that no write leads out of and at which no turn stalls."""
    positions = Positions(talk, setting)
    if not isinstance(items, list) or not all([positions.has(item) for item in items]):
        return False
    known = {item: True for item in items}
    if not all([position in known for position in positions.first_ones()]):
        return False
    for item in known:
        if positions.may_stall(item) or not all([position in known for position in positions.following(item)]):
            return False
    return True


def share_holds(graph, paper):
    """Tell whether the four values after the name of a paper show a share."""
    name, stalled, turns, ring, heights = paper
    if not is_integer(stalled) or not is_integer(turns) or turns < 1 or gcd(stalled, turns) != 1:
        return False
    if not is_ring(graph, ring) or stalled * len(ring) != turns * sum([arc[2] for arc in ring]):
        return False
    if not are_heights(graph, heights):
        return False
    height = {station: worth for station, worth in heights}
    return all([height[first] >= height[second] + stalls * turns - stalled for first, second, stalls in graph.arcs()])


def is_ring(graph, ring):
    """Tell whether any value is a list of arcs that lead on from one to the next and from the last to the first."""
    if not isinstance(ring, list) or len(ring) == 0 or not all([is_arc(arc) for arc in ring]):
        return False
    known = {arc: True for arc in graph.arcs()}
    for index, arc in enumerate(ring):
        # The arc before the first one is the last one, by the index -1.
        if arc not in known or ring[index - 1][1] != arc[0]:
            return False
    return True


def are_heights(graph, heights):
    """Tell whether any value is a list of tuples (station, integer), exactly one for each station."""
    if not isinstance(heights, list) or not all([is_height(item) for item in heights]):
        return False
    return sorted([station for station, worth in heights]) == graph.stations()


def is_height(value):
    """Tell whether any value is a tuple of a station and an integer."""
    return isinstance(value, tuple) and len(value) == 2 and is_station(value[0]) and is_integer(value[1])
