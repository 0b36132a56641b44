"""How far the stalls of a conversation by two settings can lie apart (point 22)."""

from latewords.duets import Duet
from latewords.graphs import arcs_by_source, reached, returns
from latewords.integers import is_integer
from latewords.talks import path_writes
from latewords.turnways import edges_by_node


def gap(talk, one, other, *, order="quick"):
    """Return the greatest difference of stalls by two settings and a path, or how the difference grows."""
    return GapGraph(talk, Duet(one, other, order)).answer()


class GapGraph:
    """The ends of turns of a talk by two settings, as joints, and the arcs that single turns are between them.

    A joint is a tuple (node, speaker, quicks), an arc a tuple (joint, joint, difference).
    """

    def __init__(self, talk, duet):
        self._duet = duet
        self._edges = [edges_by_node(talk, 0), edges_by_node(talk, 1)]
        self._first = (talk.first_node, -1, duet.first_quicks)
        turns = self._all_turns()
        known = reached([arc[:2] for arc in turns], [self._first])
        ends = talk.ends()
        self._ends = {joint: True for joint in known if joint[0] in ends}
        lasting = reached([(arc[1], arc[0]) for arc in turns], self._ends)
        self._turns = {arc: numbers for arc, numbers in turns.items() if arc[1] in lasting}

    def answer(self):
        """Return what gap returns."""
        if not self._ends:
            return ("none",)
        ring = self._rising_ring()
        if ring is not None:
            joint = ring[0][0]
            head = way_to(self._turns, self._first, {joint: True})
            tail = way_to(self._turns, joint, self._ends)
            return ("grows", self._numbers(head), self._numbers(ring), self._numbers(tail))
        heights, onward = self._heights()
        way = []
        joint = self._first
        while joint in onward:
            way.append(onward[joint])
            joint = onward[joint][1]
        return ("most", heights[self._first], self._numbers(way))

    def _all_turns(self):
        """Return a dict of the arcs that a row of turns leads to, each with its edge numbers."""
        found = {}
        seen = {self._first: True}
        waiting = [self._first]
        while waiting:
            joint = waiting.pop()
            for speaker in (0, 1):
                turns = self._turns_at(joint, speaker) if speaker != joint[1] else {}
                for arc, numbers in turns.items():
                    found[arc] = numbers
                    if arc[1] not in seen:
                        seen[arc[1]] = True
                        waiting.append(arc[1])
        return found

    def _turns_at(self, joint, speaker):
        """Return a dict of the arcs by which a speaker leads on from a joint, each with its edge numbers."""
        node, before, quicks = joint
        layer = {(node, self._duet.opened(speaker, quicks)): []}
        found = {}
        # The edges of one endpoint form no cycle, so some round is the last one.
        while layer:
            layer = self._next_layer(layer, speaker)
            for (at, mark), numbers in layer.items():
                difference, left = self._duet.ended(mark)
                found.setdefault((joint, (at, speaker, left), difference), numbers)
        return found

    def _next_layer(self, layer, speaker):
        """Return the (node, mark) after one edge more of a speaker, each with edge numbers."""
        found = {}
        for (node, mark), numbers in layer.items():
            for number, target, write in self._edges[speaker].get(node, []):
                found.setdefault((target, self._duet.written(mark, write)), numbers + [number])
        return found

    def _rising_ring(self):
        """Return a list of arcs that form a cycle with a difference above 0, or None if there is none."""
        # The quicks never rise and fall until they are 0, so every cycle lies where all of them are.
        late = ((0, 0), (0, 0))
        arcs = [arc for arc in self._turns if arc[0][2] == late]
        joints = list(arcs_by_source(arcs))
        for joint in joints:
            for difference, ring in returns(arcs, joint, len(joints)):
                if difference > 0:
                    return ring
        return None

    def _heights(self):
        """Return dicts from a joint to the greatest difference up to an end, and to the arc that leads there.

        A joint at which it is best to end has no arc.
        """
        heights = {joint: 0 for joint in self._ends}
        onward = {}
        # No cycle has a difference above 0, so no cycle lifts a joint again and again.
        is_changed = True
        while is_changed:
            is_changed = False
            for arc in self._turns:
                first, second, difference = arc
                if second in heights and (first not in heights or heights[second] + difference > heights[first]):
                    heights[first] = heights[second] + difference
                    onward[first] = arc
                    is_changed = True
        return (heights, onward)

    def _numbers(self, arcs):
        """Return the edge numbers of a row of arcs."""
        return [number for arc in arcs for number in self._turns[arc]]


def way_to(arcs, start, goals):
    """Return a row of arcs that leads from a start to one of the keys of goals, with as few arcs as can be."""
    by_source = arcs_by_source(arcs)
    layer = {start: []}
    seen = {start: True}
    while True:
        for at, way in layer.items():
            if at in goals:
                return way
        following = {}
        for at, way in layer.items():
            for arc in by_source.get(at, []):
                if arc[1] not in seen:
                    seen[arc[1]] = True
                    following[arc[1]] = way + [arc]
        layer = following


def gap_holds(talk, one, other, answer, *, order="quick"):
    """Tell whether any value is an answer that gap may give."""
    if not isinstance(answer, tuple) or len(answer) == 0:
        return False
    duet = Duet(one, other, order)
    if answer[0] == "most" and len(answer) == 3:
        return most_holds(talk, duet, answer[1], answer[2])
    if answer[0] == "grows" and len(answer) == 4:
        return growth_holds(talk, duet, answer[1:])
    return answer == ("none",) and GapGraph(talk, duet).answer() == ("none",)


def most_holds(talk, duet, difference, path):
    """Tell whether any two values are the greatest difference and a path with it."""
    if not is_integer(difference) or path not in talk:
        return False
    if duet.final(duet.first_mark(), path_writes(talk, path)) != difference:
        return False
    best = GapGraph(talk, duet).answer()
    return best[0] == "most" and best[1] == difference


def growth_holds(talk, duet, parts):
    """Tell whether three values are a head, a cycle and a tail with which the difference grows."""
    if not all([isinstance(part, list) for part in parts]):
        return False
    head, cycle, tail = parts
    # If it can be gone along twice, it begins where it ends.
    if len(cycle) == 0 or not all([head + cycle * many + tail in talk for many in range(3)]):
        return False
    writes = path_writes(talk, cycle)
    closing = path_writes(talk, tail)
    mark = duet.led(duet.first_mark(), path_writes(talk, head + cycle))[0]
    seen = set()
    # What one cycle more adds hangs on the mark alone, so it is enough to go on until a mark comes again.
    while mark not in seen:
        seen.add(mark)
        after, more = duet.led(mark, writes)
        if more + duet.final(after, closing) <= duet.final(mark, closing):
            return False
        mark = after
    return True
