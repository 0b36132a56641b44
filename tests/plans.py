"""Talks for the tests, drawn by a seeded random source, and what can be found out about them one by one."""

import itertools

from latewords.conversations import MODES
from latewords.roads import Road
from latewords.settings import Setting
from latewords.talks import Talk
from tests.cases import orders_of, some_policy


def some_talk(chance, most_nodes=4, most_edges=6, most_bytes=9):
    """A talk; the edges of an endpoint all lead forward in some row of the nodes, so they form no cycle."""
    nodes = chance.choice([1] + list(range(2, most_nodes + 1)) * 4)
    rows = [chance.sample(range(nodes), nodes) for _ in (0, 1)]
    edges = []
    for _ in range(chance.choice([0, 1, *range(2, most_edges + 1), most_edges, most_edges]) if nodes > 1 else 0):
        endpoint = chance.randint(0, 1)
        source, target = sorted(chance.sample(range(nodes), 2))
        edges.append((rows[endpoint][source], rows[endpoint][target], endpoint, chance.randint(1, most_bytes),
                      chance.choice(MODES + ("plain",))))
    ends = chance.sample(range(nodes), min(chance.choice([0, 1, 1, 1, 2, 2]), nodes))
    return Talk(nodes, chance.randrange(nodes), ends, edges)


def some_plan(chance, **sizes):
    """A setting and a talk that has a path with an edge."""
    while True:
        talk = some_talk(chance, **sizes)
        if talk.useful():
            return Setting(chance.randint(1, 5), some_policy(chance), some_policy(chance)), talk


def is_path(nodes, start, ends, edges, numbers):
    """What a path is, word for word."""
    at = start
    for number in numbers:
        source, target = edges[number][:2]
        if source != at:
            return False
        at = target
    return at in ends


def paths_seen(talk, count):
    """All paths of so many edges, found among all lists of edge numbers."""
    return [list(numbers) for numbers in itertools.product(range(len(talk)), repeat=count)
            if is_path(talk.node_count, talk.first_node, talk.ends(), talk.edges(), numbers)]


def useful_seen(talk):
    """The edges that stand in some path; what leads there and on from there needs at most one edge for each node."""
    found = set()
    for number, (source, target, *_) in enumerate(talk.edges()):
        if source in nodes_after(talk, talk.first_node) and nodes_after(talk, target) & set(talk.ends()):
            found.add(number)
    return sorted(found)


def nodes_after(talk, node):
    found = {node}
    for _ in range(talk.node_count):
        found |= {target for source, target, *_ in talk.edges() if source in found}
    return found


def turn_rows(talk, node, speaker):
    """All rows of useful edges of an endpoint, at least one, from a node."""
    found, rows = [], [([], node)]
    while rows:
        numbers, at = rows.pop()
        for number in useful_seen(talk):
            source, target, endpoint = talk[number][:3]
            if source == at and endpoint == speaker:
                found.append((numbers + [number], target))
                rows.append((numbers + [number], target))
    return found


def turn_played(setting, writes, quick, order):
    """(stalls, listener's quick at the end) of one turn, played segment by segment."""
    listener = 1 - writes[0][0]
    road = Road(setting.changed(endpoint=listener, quick=quick), writes).play(list(order))
    return road.stall_count, max(0, quick - road.segments_at(listener))


def turns_seen(talk, setting, station):
    """All arcs from a station, each with the fewest writes, found by playing every row in every order."""
    node, before, *quicks = station
    found = {}
    for speaker in (0, 1):
        if speaker == before:
            continue
        for numbers, target in turn_rows(talk, node, speaker):
            writes = [talk[number][2:] for number in numbers]
            for order in orders_of(writes):
                stalls, left = turn_played(setting, writes, quicks[1 - speaker], order)
                after = (target, speaker, left, quicks[1]) if speaker == 1 else (target, speaker, quicks[0], left)
                arc = (station, after, stalls)
                found[arc] = min(found.get(arc, len(numbers)), len(numbers))
    return found


def graph_seen(talk, setting):
    """(stations, arcs with the fewest writes), reckoned from the played turns."""
    first = (talk.first_node, -1, setting.policies[0].quick, setting.policies[1].quick)
    arcs, waiting, seen = {}, [first], {first}
    while waiting:
        found = turns_seen(talk, setting, waiting.pop())
        arcs.update(found)
        new = {arc[1] for arc in found} - seen
        seen |= new
        waiting.extend(new)
    lasting = {station for station in seen if station[0] in talk.ends()}
    while True:
        more = lasting | {arc[0] for arc in arcs if arc[1] in lasting}
        if more == lasting:
            break
        lasting = more
    return sorted(lasting), {arc: arcs[arc] for arc in sorted(arcs) if arc[0] in lasting and arc[1] in lasting}


def paths_up_to(talk, most_edges):
    """All paths of at most so many edges, by their length."""
    return [path for count in range(most_edges + 1) for path in talk.paths(count)]
