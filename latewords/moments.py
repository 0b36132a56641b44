"""The state of a road between two events, and what each event does to it (points 3 to 7)."""


class Side:
    """One endpoint: its rest, what it sent, what it received and what is on the way from it."""

    def __init__(self, size, policy):
        self.size = size
        self.policy = policy
        self.rest = 0
        self.kept = False
        self.sent = 0
        self.partial_end = 0
        self.acknowledged = 0
        self.received = 0
        self.pending = 0
        self.segments = 0
        self.way = []

    def copied(self):
        """Return a new side that stands where this one does."""
        side = Side(self.size, self.policy)
        side.rest = self.rest
        side.kept = self.kept
        side.sent = self.sent
        side.partial_end = self.partial_end
        side.acknowledged = self.acknowledged
        side.received = self.received
        side.pending = self.pending
        side.segments = self.segments
        side.way = list(self.way)
        return side

    def prospect(self):
        """Return what decides, with the writes to come, all that this side may still do."""
        # Which bytes were sent and received follows from the writes made, the rest and what is on the way.
        early = min(self.segments, self.policy.quick)
        partial_end = max(self.partial_end, self.acknowledged)
        return (self.rest, self.kept, self.acknowledged, partial_end, self.pending, early, tuple(self.way))

    def permits(self):
        """Tell whether the hold policy permits a partial segment now."""
        if self.policy.hold == "all":
            return self.acknowledged == self.sent
        if self.policy.hold == "partial":
            # Acknowledgments cover all bytes up to a point, so the last partial segment tells of all.
            return self.acknowledged >= self.partial_end
        return True

    def send(self, length):
        """Put a segment of so many bytes on the way, or a bare acknowledgment if there are none."""
        self.sent += length
        if 0 < length < self.size:
            self.partial_end = self.sent
        self.way.append((length, self.received))
        self.pending = 0

    def send_rest(self):
        """Send the rest, which is shorter than a full segment."""
        self.send(self.rest)
        self.rest = 0
        self.kept = False

    def take(self, length, mode):
        """Take the bytes of a write and send what may be sent."""
        self.rest += length
        while self.rest >= self.size:
            self.rest -= self.size
            self.send(self.size)
        self.kept = mode == "more" and self.rest > 0
        if self.rest > 0 and (mode == "push" or mode == "plain" and self.permits()):
            self.send_rest()

    def hear(self, length, acknowledged):
        """Receive a segment, or a bare acknowledgment if it has no bytes."""
        self.acknowledged = acknowledged
        if self.rest > 0 and not self.kept and self.permits():
            self.send_rest()
        if length > 0:
            self.receive(length)

    def receive(self, length):
        """Receive the bytes of a segment, and acknowledge them if it is time."""
        is_early = self.segments < self.policy.quick
        self.segments += 1
        self.received += length
        is_due = False
        if length == self.size:
            self.pending += 1
            # After a full segment at least one is pending, so an `every` of 0 never makes it due.
            is_due = self.pending == self.policy.every
        if is_early or is_due:
            self.send(0)


class Moment:
    """Both endpoints, the number of writes made and the stalls so far."""

    def __init__(self, sides, made=0, stalls=0):
        self.sides = sides
        self.made = made
        self.stalls = stalls

    def copied(self):
        """Return a new moment that is like this one."""
        return Moment([side.copied() for side in self.sides], self.made, self.stalls)

    def prospect(self):
        """Return what decides all that may still happen: where two moments have the same, it is the same."""
        zero, one = self.sides
        return (self.made, zero.prospect(), one.prospect())

    def make(self, write):
        """Make a write."""
        endpoint, length, mode = write
        self.made += 1
        self.sides[endpoint].take(length, mode)

    def bring(self, endpoint):
        """Let the oldest thing arrive that is on the way from an endpoint."""
        length, acknowledged = self.sides[endpoint].way.pop(0)
        self.sides[1 - endpoint].hear(length, acknowledged)

    def stall(self, speaker):
        """Let the timer fire."""
        self.stalls += 1
        if self.sides[speaker].kept:
            self.sides[speaker].send_rest()
        else:
            self.sides[1 - speaker].send(0)
