"""The turn graph of a talk: where turns end, and how one turn leads on from there (point 18)."""

from latewords.allorders import with_quick
from latewords.errors import NoArc
from latewords.graphs import reached
from latewords.integers import between, is_integer
from latewords.turnways import TurnWays


class TurnGraph:
    """The stations of a talk and the arcs between them, each arc with a turn that leads along it."""

    def __init__(self, talk, setting):
        first = first_station(talk, setting)
        arcs = arcs_from(first, [TurnWays(talk, setting, 0), TurnWays(talk, setting, 1)])
        known = reached([arc[:2] for arc in arcs], [first])
        ends = talk.ends()
        lasting = reached([(arc[1], arc[0]) for arc in arcs], [station for station in known if station[0] in ends])
        self._stations = sorted(lasting)
        self._ways = {arc: arcs[arc] for arc in sorted(arcs) if arc[1] in lasting}

    def stations(self):
        """Return the stations, ascending."""
        return list(self._stations)

    def arcs(self):
        """Return the arcs, ascending."""
        return list(self._ways)

    def witness(self, arc):
        """Return (edge numbers, order): a turn with as few writes as can be by which an arc comes."""
        if not is_arc(arc) or arc not in self._ways:
            raise NoArc(arc)
        numbers, clearings = self._ways[arc]
        return (list(numbers), list(clearings))


def first_station(talk, setting):
    """Return the station from which every conversation of a talk begins."""
    zero, one = setting.policies
    return (talk.first_node, -1, zero.quick, one.quick)


def arcs_from(first, ways):
    """Return a dict of the arcs that some row of arcs leads to, each with its edge numbers and numbers of clearings.

    ways are the turns of endpoints 0 and 1.
    """
    found = {}
    seen = {first: True}
    waiting = [first]
    while waiting:
        station = waiting.pop()
        for arc, way in arcs_at(station, ways):
            found[arc] = way
            if arc[1] not in seen:
                seen[arc[1]] = True
                waiting.append(arc[1])
    return found


def arcs_at(station, ways):
    """Return tuples (arc, way) for the arcs that lead from a station."""
    node, before = station[:2]
    quicks = station[2:]
    found = []
    for speaker in (0, 1):
        if speaker != before:
            for (target, stalls, left), way in ways[speaker].endings(node, quicks[1 - speaker]).items():
                zero, one = with_quick(quicks, 1 - speaker, left)
                found.append(((station, (target, speaker, zero, one), stalls), way))
    return found


def is_station(value):
    """Tell whether any value is a tuple of four integers, as stations are."""
    return isinstance(value, tuple) and len(value) == 4 and all([is_integer(item) for item in value])


def is_arc(value):
    """Tell whether any value is a tuple of two such stations and a number of stalls."""
    if not isinstance(value, tuple) or len(value) != 3:
        return False
    return is_station(value[0]) and is_station(value[1]) and between(value[2], 0, 1)
