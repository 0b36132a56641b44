"""Positions: where a conversation of a talk stands after a write (point 20).

A position is a tuple (node, speaker, rest, kept, blocked, stuck, pending, listener's quick, speaker's quick).
"""

from latewords.integers import between
from latewords.places import cleared_places, ended_place, first_place, written_place
from latewords.stances import Stances
from latewords.turnways import edges_by_node


class Positions:
    """How the positions of a talk lead to one another along its useful edges, in all orders."""

    def __init__(self, talk, setting):
        self._talk = talk
        self._setting = setting
        self._ends = talk.ends()
        self._stances = [Stances(setting, 0), Stances(setting, 1)]
        self._edges = [edges_by_node(talk, 0), edges_by_node(talk, 1)]

    def first_ones(self):
        """Return the positions after a first write of the conversation."""
        zero, one = self._setting.policies
        start = self._talk.first_node
        return self._opened(start, 0, one.quick, zero.quick) + self._opened(start, 1, zero.quick, one.quick)

    def following(self, position):
        """Return the positions after the next write, in each order."""
        node, speaker = position[:2]
        own_quick = position[8]
        found = []
        for cleared in cleared_places(self._stances[speaker], place_of(position)):
            found.extend(self._written(node, speaker, cleared, own_quick))
        left = ended_place(self._stances[speaker], place_of(position))[1]
        # Who listened now speaks, so the quicks change their roles.
        return found + self._opened(node, 1 - speaker, own_quick, left)

    def may_stall(self, position):
        """Tell whether the turn may end at a position and stalls if it does."""
        node, speaker = position[:2]
        may_end = node in self._ends or node in self._edges[1 - speaker]
        return may_end and ended_place(self._stances[speaker], place_of(position))[0] == 1

    def has(self, value):
        """Tell whether any value is a position."""
        if not isinstance(value, tuple) or len(value) != 9:
            return False
        if not between(value[0], 0, self._talk.node_count - 1) or not between(value[1], 0, 1):
            return False
        if not between(value[2], 0, self._setting.size - 1) or not all([isinstance(word, bool) for word in value[3:6]]):
            return False
        return self._may_hold(value) and self._may_listen(value)

    def _may_hold(self, value):
        """Tell whether the speaker's part of a position can be so."""
        hold = self._setting.policies[value[1]].hold
        rest, kept, blocked, stuck = value[2:6]
        if kept and rest == 0 or blocked and hold == "off":
            return False
        if rest > 0 and not kept and not blocked:
            return False
        return not stuck or blocked and value[7] == 0

    def _may_listen(self, value):
        """Tell whether the pending segments and the quicks of a position can be so."""
        pending, quick, own_quick = value[6:]
        listener = self._setting.policies[1 - value[1]]
        speaker = self._setting.policies[value[1]]
        if not between(quick, 0, listener.quick) or not between(own_quick, 0, speaker.quick):
            return False
        is_covered = quick > 0 or speaker.hold == "all" and not value[5]
        return between(pending, 0, 0 if is_covered else max(listener.every - 1, 0))

    def _opened(self, node, speaker, quick, own_quick):
        """Return the positions after a first write of a turn, with the quicks of the listener and of the speaker."""
        return self._written(node, speaker, first_place(quick), own_quick)

    def _written(self, node, speaker, place, own_quick):
        """Return the positions after one more write of the speaker."""
        found = []
        for number, target, write in self._edges[speaker].get(node, []):
            rest, stance = written_place(self._stances[speaker], self._setting.size, place, write)
            found.append((target, speaker, rest, *stance, own_quick))
        return found


def place_of(position):
    """Return the place of a position within its turn."""
    return (position[2], position[3:8])
