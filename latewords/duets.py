"""Two settings side by side: the same writes played under both, each by the order quick or slow (point 22)."""

from latewords.allorders import with_quick
from latewords.places import cleared_places, ended_place, first_place, written_place
from latewords.stances import Stances


class Solo:
    """One setting and one order, which says the same before each write that is not the first of its turn."""

    def __init__(self, setting, order):
        self._size = setting.size
        self._stances = [Stances(setting, 0), Stances(setting, 1)]
        self._is_quick = order == "quick"

    def written(self, place, write):
        """Return the place after a write and the clearings before it."""
        stances = self._stances[write[0]]
        if self._is_quick:
            # At the beginning of a turn clearings change nothing, so a first write needs no care.
            place = cleared_places(stances, place)[-1]
        return written_place(stances, self._size, place, write)

    def ended(self, speaker, place):
        """Return (stalls, quick): the end of a turn after its last write."""
        return ended_place(self._stances[speaker], place)


class Duet:
    """Two settings on the same writes.

    Its marks are tuples (speaker, places, quicks): the speaker of the current turn, -1 ahead of the first one, and for
    each setting the place within this turn and the quicks of both endpoints with which it began. A difference is the
    stalls by the first setting less those by the other one.
    """

    def __init__(self, one, other, order):
        self._solos = [Solo(one, order), Solo(other, order)]
        self.first_quicks = tuple([(setting.policies[0].quick, setting.policies[1].quick) for setting in (one, other)])

    def first_mark(self):
        """Return the mark ahead of the first write."""
        return (-1, (), self.first_quicks)

    def opened(self, speaker, quicks):
        """Return the mark at the beginning of a turn."""
        return (speaker, tuple([first_place(pair[1 - speaker]) for pair in quicks]), quicks)

    def written(self, mark, write):
        """Return the mark after a write of the speaker."""
        speaker, places, quicks = mark
        after = [solo.written(place, write) for solo, place in zip(self._solos, places)]
        return (speaker, tuple(after), quicks)

    def ended(self, mark):
        """Return (difference, quicks): the end of a turn after its last write."""
        speaker, places, quicks = mark
        ends = [solo.ended(speaker, place) for solo, place in zip(self._solos, places)]
        left = [with_quick(pair, 1 - speaker, end[1]) for pair, end in zip(quicks, ends)]
        return (ends[0][0] - ends[1][0], tuple(left))

    def led(self, mark, writes):
        """Return (mark, difference) after writes of any speakers; the difference is that of the turns that ended."""
        total = 0
        for write in writes:
            if write[0] != mark[0]:
                difference, quicks = self.closed(mark)
                total += difference
                mark = self.opened(write[0], quicks)
            mark = self.written(mark, write)
        return (mark, total)

    def closed(self, mark):
        """Return (difference, quicks): the end of the current turn, if there is one."""
        return self.ended(mark) if mark[0] >= 0 else (0, mark[2])

    def final(self, mark, writes):
        """Return the difference of writes with which the conversation ends, the current turn included."""
        last, total = self.led(mark, writes)
        return total + self.closed(last)[0]
