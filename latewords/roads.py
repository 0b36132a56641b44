"""The road, which plays one conversation event by event (points 7, 8 and 11)."""

from latewords.conversations import check, normal_order, turns
from latewords.errors import NotPossible, NothingDone, TooLong
from latewords.moments import Moment, Side

MOST_SEGMENTS = 300


class Road:
    """A conversation on its way, with all events that were done, so that they can be taken back."""

    def __init__(self, setting, conversation):
        check(conversation)
        many = segment_sum(setting, conversation)
        if many > MOST_SEGMENTS:
            raise TooLong(many)
        self._setting = setting
        self._writes = list(conversation)
        self._given = given_bytes(conversation)
        self._now = Moment([Side(setting.size, policy) for policy in setting.policies])
        self._past = []
        self._floor = 0

    def __len__(self):
        return len(self._past)

    @property
    def stall_count(self):
        """The number of stalls so far."""
        return self._now.stalls

    @property
    def is_over(self):
        """Whether the conversation is finished."""
        return self._now.made == len(self._writes) and self._has_heard(0) and self._has_heard(1)

    def possible(self):
        """Return the events that are possible now."""
        if self.is_over:
            return []
        events = []
        if self._now.made < len(self._writes) and self._has_heard(self._writes[self._now.made][0]):
            events.append("write")
        for endpoint in (0, 1):
            if self._now.sides[endpoint].way:
                events.append(f"arrive {endpoint}")
        return events or ["timer"]

    def do(self, event):
        """Do an event, or raise NotPossible for any other value."""
        if event not in self.possible():
            raise NotPossible(event)
        moment = self._now.copied()
        if event == "write":
            moment.make(self._writes[moment.made])
        elif event == "timer":
            moment.stall(self._speaker())
        else:
            moment.bring(0 if event == "arrive 0" else 1)
        self._past.append((event, self._now))
        self._now = moment

    def rest_of(self, endpoint):
        """Return how many bytes of an endpoint were written but not sent."""
        return self._now.sides[endpoint].rest

    def keeps(self, endpoint):
        """Tell whether an endpoint has a rest that is kept."""
        return self._now.sides[endpoint].kept

    def sent_by(self, endpoint):
        """Return how many bytes an endpoint sent."""
        return self._now.sides[endpoint].sent

    def acknowledged_to(self, endpoint):
        """Return how many bytes an endpoint sent that are acknowledged to it."""
        return self._now.sides[endpoint].acknowledged

    def received_by(self, endpoint):
        """Return how many bytes an endpoint received."""
        return self._now.sides[endpoint].received

    def pending_at(self, endpoint):
        """Return how many full segments are pending at an endpoint."""
        return self._now.sides[endpoint].pending

    def segments_at(self, endpoint):
        """Return how many segments an endpoint received."""
        return self._now.sides[endpoint].segments

    def way_from(self, endpoint):
        """Return the things on the way from an endpoint as tuples (bytes, acknowledged), oldest first."""
        return list(self._now.sides[endpoint].way)

    def prospect(self):
        """Return what decides all that may still happen: where it is the same, the same may happen."""
        return self._now.prospect()

    def undo(self):
        """Take the last event back and return it."""
        if len(self._past) == self._floor:
            raise NothingDone()
        event, self._now = self._past.pop()
        return event

    def log(self):
        """Return the events that were done, oldest first."""
        return [event for event, moment in self._past]

    def clearing(self):
        """Make one clearing and return how many events it took."""
        if self._now.made == 0:
            return 0
        speaker = self._speaker()
        first = self._bring_all(speaker)
        second = self._bring_all(1 - speaker)
        return first + second

    def play(self, order="quick"):
        """Play the whole conversation by an order on a new road and return that road."""
        clearings = normal_order(self._writes, order)
        road = Road(self._setting, self._writes)
        for endpoint, start, stop in turns(self._writes):
            for index in range(start, stop):
                for _ in range(clearings[index]):
                    road.clearing()
                road.do("write")
            road._end_turn(1 - endpoint)
        return road

    def tried(self, function):
        """Call a function with the road, take back all events that it does, and return what it returns."""
        with Trial(self) as same:
            return function(same)

    def _has_heard(self, endpoint):
        """Tell whether an endpoint has received all bytes of the writes made by the other one."""
        return self._now.sides[endpoint].received == self._given[self._now.made][1 - endpoint]

    def _speaker(self):
        """Return the endpoint of the last write made."""
        return self._writes[self._now.made - 1][0]

    def _bring_all(self, endpoint):
        """Let all arrive that is on the way from an endpoint; stop when the conversation is finished."""
        many = len(self._now.sides[endpoint].way)
        for done in range(many):
            if self.is_over:
                return done
            self.do(f"arrive {endpoint}")
        return many

    def _clear(self):
        """Make clearings until nothing is on the way or the conversation is finished."""
        while not self.is_over and (self._now.sides[0].way or self._now.sides[1].way):
            self.clearing()

    def _end_turn(self, listener):
        """Let a turn come to its end after its last write."""
        self._clear()
        if not self._has_heard(listener):
            self.do("timer")
            self._clear()


class Trial:
    """A block in which a road can be used and after which all events since are taken back."""

    def __init__(self, road):
        self._road = road

    def __enter__(self):
        road = self._road
        self._now = road._now
        self._past = road._past
        self._floor = road._floor
        # The road goes on with a list of its own, so that the old one can be given back as it is.
        road._past = list(road._past)
        road._floor = len(road._past)
        return road

    def __exit__(self, kind, value, trace):
        road = self._road
        road._now = self._now
        road._past = self._past
        road._floor = self._floor


def segment_sum(setting, conversation):
    """Return a bound for the segments of a conversation, the sum that `TooLong` tells of."""
    return sum([write[1] // setting.size + 1 for write in conversation])


def given_bytes(conversation):
    """Return, for each number of writes made, how many bytes endpoints 0 and 1 were given by these."""
    given = [(0, 0)]
    for endpoint, length, mode in conversation:
        zero, one = given[-1]
        given.append((zero, one + length) if endpoint == 1 else (zero + length, one))
    return given
