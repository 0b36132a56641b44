"""One turn on its course through states, with what both endpoints send in it (points 13 and 14)."""

from latewords.stances import Stances


class Course:
    """The state of a turn, as a rest and a stance, and the segments and bare acknowledgments so far."""

    def __init__(self, setting, speaker, rest, stance):
        self._size = setting.size
        self._stances = Stances(setting, speaker)
        self.rest = rest
        self.stance = stance
        self.segments = 0
        self.acknowledgments = 0

    def make_write(self, length, mode):
        """Make a write of the speaker."""
        full, self.rest = divmod(self.rest + length, self._size)
        self.segments += full
        self._take(self._stances.after_write(self.stance, full, self.rest > 0, mode))

    def make_clearing(self):
        """Make a clearing."""
        self._take(self._stances.after_clearing(self.stance, self.rest > 0))

    def make_end(self):
        """Bring the turn to its end after the last write; return its stalls and the listener's quick."""
        stalls, quick, acknowledgments = self._stances.at_end(self.stance, self.rest > 0)
        self.acknowledgments += acknowledgments
        if self.rest > 0:
            self.segments += 1
        return (stalls, quick)

    def _take(self, step):
        """Take over what a write or a clearing leads to."""
        self.stance, is_sent, acknowledgments = step
        self.acknowledgments += acknowledgments
        if is_sent:
            self.rest = 0
            self.segments += 1
