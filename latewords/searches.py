"""The fewest and the most stalls over all sequences of events (point 12)."""

from latewords.conversations import check
from latewords.errors import TooLong
from latewords.roads import Road, Trial, segment_sum

MOST_SEARCHED = 24


def search(setting, conversation):
    """Return (least, events, most, events): the fewest and the most stalls, each with events that lead to it."""
    check(conversation)
    many = segment_sum(setting, conversation)
    if many > MOST_SEARCHED:
        raise TooLong(many)
    searched = Search(setting, conversation)
    fewest, most = searched.stalls_ahead()
    return (fewest, searched.events(0), most, searched.events(1))


class Search:
    """All sequences of events of a conversation; what may still happen is gone through once for all ways to it."""

    def __init__(self, setting, conversation):
        self._road = Road(setting, conversation)
        self._known = {}

    def stalls_ahead(self):
        """Return the fewest and the most stalls that may come from where the road stands."""
        road = self._road
        prospect = road.prospect()
        if prospect in self._known:
            return self._known[prospect]
        lows = []
        highs = []
        for event in road.possible():
            road.do(event)
            fewest, most = self.stalls_ahead()
            road.undo()
            stalls = 1 if event == "timer" else 0
            lows.append(fewest + stalls)
            highs.append(most + stalls)
        self._known[prospect] = (min(lows, default=0), max(highs, default=0))
        return self._known[prospect]

    def events(self, side):
        """Return events with the fewest stalls (side 0) or with the most (side 1), up to the end."""
        with Trial(self._road) as road:
            while not road.is_over:
                wanted = road.stall_count + self.stalls_ahead()[side]
                for event in road.possible():
                    road.do(event)
                    if road.stall_count + self.stalls_ahead()[side] == wanted:
                        break
                    road.undo()
            return road.log()
