"""How the stalls depend on the size, and how many bytes a turn is short of (points 15 and 16)."""

from latewords.allorders import AllOrders, turn_endings, with_quick
from latewords.conversations import check, turns
from latewords.errors import NoTurn, TooLong
from latewords.integers import between
from latewords.spreads import spread_endings
from latewords.stances import Stances

MOST_BYTES = 1000
MOST_PADDED = 6


def bands(setting, conversation):
    """Return tuples (low, high, least, most): the fewest and the most stalls with the sizes from low to high."""
    check(conversation)
    many = total_length(conversation)
    if many > MOST_BYTES:
        raise TooLong(many)
    sizes = Sizes(setting, conversation)
    lows = [(1, sizes.stall_counts(1))]
    for size in range(2, sizes.last + 1):
        counts = sizes.stall_counts(size)
        if counts != lows[-1][1]:
            lows.append((size, counts))
    highs = [next_low - 1 for next_low, others in lows[1:]] + [None]
    return [(low, high, fewest, most) for (low, (fewest, most)), high in zip(lows, highs)]


def total_length(writes):
    """Return the sum of the lengths of writes."""
    return sum([length for endpoint, length, mode in writes])


class Sizes:
    """The stalls of a conversation with each size from 1 to the last one, above which nothing changes."""

    def __init__(self, setting, conversation):
        zero, one = setting.policies
        self._first_quicks = (zero.quick, one.quick)
        self._stances = [Stances(setting, 0), Stances(setting, 1)]
        self._turns = [(speaker, conversation[start:stop]) for speaker, start, stop in turns(conversation)]
        # With a size above the sum of a turn no segment of it is full, however far above.
        self._lasts = [total_length(writes) + 1 for speaker, writes in self._turns]
        self._known = {}
        self.last = max(self._lasts, default=1)

    def stall_counts(self, size):
        """Return the fewest and the most stalls over all orders with a size."""
        ranges = {self._first_quicks: (0, 0)}
        for number in range(len(self._turns)):
            after = {}
            for quicks, (fewest, most) in ranges.items():
                for stalls, left in self._endings(number, size, quicks):
                    counts = (fewest + stalls, most + stalls)
                    low, high = after.get(left, counts)
                    after[left] = (min(low, counts[0]), max(high, counts[1]))
            ranges = after
        return (min([low for low, high in ranges.values()]), max([high for low, high in ranges.values()]))

    def _endings(self, number, size, quicks):
        """Return (stalls, quicks at the end) for the ways in which a turn can end that begins with these quicks."""
        speaker, writes = self._turns[number]
        quick = quicks[1 - speaker]
        key = (number, quick, min(size, self._lasts[number]))
        if key not in self._known:
            self._known[key] = spread_endings(self._stances[speaker], key[2], writes, quick)
        return [(stalls, with_quick(quicks, 1 - speaker, left)) for stalls, left in self._known[key]]


def padding(setting, conversation, turn=0):
    """Return (extra, index): the fewest bytes that make a turn stall in no order, and the write that takes them."""
    check(conversation)
    found = turns(conversation)
    if not between(turn, 0, len(found) - 1):
        raise NoTurn(turn)
    speaker, start, stop = found[turn]
    if stop - start > MOST_PADDED:
        raise TooLong(stop - start)
    starts = AllOrders(setting, conversation).starts(turn + 1)[turn]
    paddings = Paddings(setting, speaker, conversation[start:stop], [quicks[1 - speaker] for quicks in starts])
    if paddings.is_calm(0, 0):
        return (0, None)
    for extra, number in paddings.candidates():
        if paddings.is_calm(extra, number):
            return (extra, start + number)
    return None


class Paddings:
    """A turn, the listener's quicks with which it may begin, and what comes of it if a write is made longer."""

    def __init__(self, setting, speaker, writes, quicks):
        self._size = setting.size
        self._listener = setting.policies[1 - speaker]
        self._stances = Stances(setting, speaker)
        self._writes = writes
        self._quicks = quicks

    def is_calm(self, extra, number):
        """Tell whether the turn stalls in no order if a write of it is made longer by so many bytes."""
        writes = list(self._writes)
        endpoint, length, mode = writes[number]
        writes[number] = (endpoint, length + extra, mode)
        for quick in self._quicks:
            endings = turn_endings(self._stances, self._size, writes, quick)
            if max([stalls for stalls, left in endings]) > 0:
                return False
        return True

    def candidates(self):
        """Return all (extra, number of the write) that can be the least one, ascending."""
        # Each round adds one full segment. What these lead to repeats with `every` of them as soon as so many have
        # come that none is among the first and one of them was acknowledged.
        rounds = range(self._listener.quick + 2 * max(self._listener.every, 1) + 1)
        found = set()
        for number in range(len(self._writes)):
            for offset in self._offsets(number):
                for many in rounds:
                    found.add((offset + many * self._size, number))
        return sorted(found)

    def _offsets(self, number):
        """Return the extra bytes below the size at which something changes, and those right behind them.

        Every rest is the sum of the writes since some write, less full segments. So nothing changes between
        two lengths at neither of which such a sum that holds this write is a multiple of the size.
        """
        found = []
        for first in range(number + 1):
            for last in range(number, len(self._writes)):
                short = -total_length(self._writes[first:last + 1]) % self._size
                found.extend([short, short + 1])
        return found
