"""The turns that one endpoint can make along the edges of a talk, in all orders (point 18)."""

from latewords.places import cleared_places, ended_place, first_place, written_place
from latewords.stances import Stances


class TurnWays:
    """The turns of one speaker along the useful edges of a talk."""

    def __init__(self, talk, setting, speaker):
        self._size = setting.size
        self._stances = Stances(setting, speaker)
        self._edges = edges_by_node(talk, speaker)
        self._known = {}

    def endings(self, node, quick):
        """Return the ways in which a turn can end that begins at a node with the listener's quick.

        They are a dict from (node, stalls, quick), all at the end, to (edge numbers, numbers of clearings) with as few
        writes as can be.
        """
        if (node, quick) not in self._known:
            self._known[(node, quick)] = self._search(node, quick)
        return self._known[(node, quick)]

    def _search(self, node, quick):
        """Reckon what endings returns, with one write more in each round."""
        layer = {(node, first_place(quick)): ([], [])}
        found = {}
        # The edges of one endpoint form no cycle, so some round is the last one.
        while layer:
            layer = self._next_layer(layer)
            for (at, place), way in layer.items():
                stalls, left = ended_place(self._stances, place)
                found.setdefault((at, stalls, left), way)
        return found

    def _next_layer(self, layer):
        """Return the (node, place) after one edge more, each with edge numbers and numbers of clearings."""
        found = {}
        for (node, place), (numbers, clearings) in layer.items():
            for number, target, write in self._edges.get(node, []):
                for count, cleared in enumerate(cleared_places(self._stances, place)):
                    after = (target, written_place(self._stances, self._size, cleared, write))
                    found.setdefault(after, (numbers + [number], clearings + [count]))
        return found


def edges_by_node(talk, speaker):
    """Return a dict from a node to (number, target, write) of the useful edges by which the speaker goes on."""
    found = {}
    for number in talk.useful():
        source, target, endpoint, length, mode = talk[number]
        if endpoint == speaker:
            found.setdefault(source, []).append((number, target, (endpoint, length, mode)))
    return found
