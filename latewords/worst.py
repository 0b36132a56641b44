"""The worst that can come of a talk: first stalls, the fewest and the most stalls, shares (point 19)."""

from heapq import heappop, heappush
from math import gcd

from latewords.graphs import arcs_by_source, returns
from latewords.turngraphs import TurnGraph, first_station

# Each turn brings at least one segment, and at most 4 of each listener are its first ones: after so many turns none is.
MOST_EARLY_TURNS = 8


def first_stall(talk, setting):
    """Return (path, order) with as few writes as can be such that the path stalls in this order, or None."""
    graph = TurnGraph(talk, setting)
    arcs = shortest_stalling(graph, first_station(talk, setting), talk.ends())
    if arcs is None:
        return None
    turns = [graph.witness(arc) for arc in arcs]
    path = [number for numbers, clearings in turns for number in numbers]
    return (path, [count for numbers, clearings in turns for count in clearings])


def shortest_stalling(graph, first, ends):
    """Return arcs, one with a stall among them, from the first station to an end node with as few writes as can be."""
    by_source = arcs_by_source(graph.arcs())
    best = {(first, 0): (0, [])}
    queue = [(0, first, 0)]
    while queue:
        cost, station, stalled = heappop(queue)
        known, way = best[(station, stalled)]
        if stalled == 1 and station[0] in ends:
            return way
        # Once something better came, the old entry has nothing to add.
        following = by_source.get(station, []) if cost == known else []
        for arc in following:
            numbers, clearings = graph.witness(arc)
            total = cost + len(numbers)
            after = (arc[1], max(stalled, arc[2]))
            if after not in best or total < best[after][0]:
                best[after] = (total, way + [arc])
                heappush(queue, (total, after[0], after[1]))
    return None


def fewest_stalls(talk, setting, turns):
    """Return the fewest stalls of a conversation with exactly so many turns, or None if there is none."""
    return best_stalls(talk, setting, turns, 1)


def most_stalls(talk, setting, turns):
    """Return the most stalls of a conversation with exactly so many turns, or None if there is none."""
    return best_stalls(talk, setting, turns, -1)


def best_stalls(talk, setting, count, sign):
    """Return the fewest stalls for the sign 1, the most for -1, with exactly so many turns."""
    graph = TurnGraph(talk, setting)
    first = first_station(talk, setting)
    step = {}
    for source, target, stalls in graph.arcs():
        add_worth(step, source, target, sign * stalls)
    early = min(count, MOST_EARLY_TURNS)
    reach = {first: {first: 0}}
    for _ in range(early):
        reach = joined(reach, step)
    left = count - early
    # From here on only stations without quicks come, few enough to double the number of turns again and again.
    step = {source: targets for source, targets in step.items() if is_late(source)}
    while left > 0:
        if left % 2 == 1:
            reach = joined(reach, step)
        step = joined(step, step)
        left //= 2
    ends = talk.ends()
    worths = [worth for station, worth in reach.get(first, {}).items() if station[0] in ends]
    return sign * min(worths) if worths else None


def is_late(station):
    """Tell whether no endpoint will acknowledge a segment any more because it is among its first."""
    node, speaker, zero, one = station
    return zero == 0 and one == 0


def add_worth(step, source, target, worth):
    """Enter that something leads from a source to a target for so much, if nothing does for less."""
    targets = step.setdefault(source, {})
    targets[target] = min(worth, targets.get(target, worth))


def joined(one, other):
    """Return what leads along one step and another after it, for the least sum."""
    found = {}
    for source, middles in one.items():
        for middle, worth in middles.items():
            for target, more in other.get(middle, {}).items():
                add_worth(found, source, target, worth + more)
    return found


def share(talk, setting):
    """Return the greatest share of stalled turns on an endless way as (stalled, turns), or None if there is none."""
    ring = best_ring(TurnGraph(talk, setting))
    return None if ring is None else ring_share(ring)


def ring_share(ring):
    """Return the share of stalled turns of a cycle of arcs as (stalled, turns), in lowest terms."""
    stalled = sum([arc[2] for arc in ring])
    divisor = gcd(stalled, len(ring))
    return (stalled // divisor, len(ring) // divisor)


def best_ring(graph):
    """Return a list of arcs that form a cycle with the greatest share of stalled turns, or None."""
    # The quicks never rise and fall until they are 0, so every cycle lies among the late stations.
    stations = [station for station in graph.stations() if is_late(station)]
    arcs = [arc for arc in graph.arcs() if is_late(arc[0])]
    best = None
    for station in stations:
        for stalls, ring in returns(arcs, station, len(stations)):
            if best is None or stalls * len(best[1]) > best[0] * len(ring):
                best = (stalls, ring)
    return None if best is None else best[1]
