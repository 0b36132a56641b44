"""All orders of a conversation at once, turn by turn (points 8 and 14)."""

from latewords.conversations import turns
from latewords.places import cleared_places, ended_place, first_place, written_place
from latewords.stances import Stances


class AllOrders:
    """The ways in which the turns of a conversation can end.

    From one turn to the next only the quick of endpoints 0 and 1 matters, a tuple called quicks.
    """

    def __init__(self, setting, conversation):
        self._size = setting.size
        self._turns = turns(conversation)
        self._writes = list(conversation)
        self._stances = [Stances(setting, 0), Stances(setting, 1)]
        self._known = {}
        zero, one = setting.policies
        self.first_quicks = (zero.quick, one.quick)
        self.turn_count = len(self._turns)

    def endings(self, number, quicks):
        """Return the ways in which a turn can end that begins with these quicks.

        They are tuples (stalls, quicks at the end, numbers of clearings before the writes of the turn).
        """
        speaker, start, stop = self._turns[number]
        quick = quicks[1 - speaker]
        if (number, quick) not in self._known:
            writes = self._writes[start:stop]
            self._known[(number, quick)] = turn_endings(self._stances[speaker], self._size, writes, quick)
        return [(stalls, with_quick(quicks, 1 - speaker, left), clearings)
                for (stalls, left), clearings in self._known[(number, quick)].items()]

    def starts(self, count):
        """Return for each of the first so many turns the quicks with which it begins in some order, ascending."""
        found = [[self.first_quicks]]
        for number in range(count - 1):
            after = [ending[1] for quicks in found[-1] for ending in self.endings(number, quicks)]
            found.append(sorted(set(after)))
        return found[:count]


def with_quick(quicks, endpoint, quick):
    """Return the quicks with that of an endpoint replaced."""
    return (quick, quicks[1]) if endpoint == 0 else (quicks[0], quick)


def turn_endings(stances, size, writes, quick):
    """Return a dict from each (stalls, quick) with which a turn can end to clearings that lead to it.

    The turn begins with the listener's quick; its clearings are a number for each write.
    """
    # At the beginning clearings change nothing, so the first write gets 0 as an order wants it.
    layer = {first_place(quick): None}
    layers = []
    for write in writes:
        layer = next_layer(stances, size, layer, write)
        layers.append(layer)
    found = {}
    for place in layer:
        ending = ended_place(stances, place)
        if ending not in found:
            found[ending] = clearings_to(layers, place)
    return found


def next_layer(stances, size, layer, write):
    """Return the places after a write, each with the place before it and the number of clearings between.

    Layer holds all places before the write.
    """
    found = {}
    for place in layer:
        for clearings, cleared in enumerate(cleared_places(stances, place)):
            found.setdefault(written_place(stances, size, cleared, write), (place, clearings))
    return found


def clearings_to(layers, place):
    """Return the numbers of clearings, one before each write, that lead to a place of the last layer."""
    found = []
    for layer in reversed(list(layers)):
        place, clearings = layer[place]
        found.append(clearings)
    return found[::-1]
