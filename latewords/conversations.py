"""Conversations, their turns and their orders (points 6, 8 and 10)."""

from latewords.errors import BadOrder, BadWrite
from latewords.integers import between

MODES = ("plain", "push", "more")
MOST_WRITES = 200
MOST_LENGTH = 10 ** 18
MOST_CLEARINGS = 2


def check(conversation):
    """Raise BadWrite if any value is no conversation."""
    if not isinstance(conversation, list) or len(conversation) > MOST_WRITES:
        raise BadWrite(None)
    for index, write in enumerate(conversation):
        if not is_write(write):
            raise BadWrite(index)


def is_write(value):
    """Tell whether any value is a tuple of an endpoint, a length and a mode."""
    if not isinstance(value, tuple) or len(value) != 3:
        return False
    endpoint, length, mode = value
    return between(endpoint, 0, 1) and between(length, 1, MOST_LENGTH) and mode in MODES


def turns(conversation):
    """Return a tuple (endpoint, start, stop) for each turn."""
    check(conversation)
    found = []
    start = 0
    for stop in range(1, len(conversation) + 1):
        speaker = conversation[start][0]
        if stop == len(conversation) or conversation[stop][0] != speaker:
            found.append((speaker, start, stop))
            start = stop
    return found


def normal_order(conversation, order):
    """Return an order of a conversation as a list, or raise BadOrder if any value is none."""
    highest = most_clearings(conversation)
    if order == "quick":
        return highest
    if order == "slow":
        return [0] * len(conversation)
    if not isinstance(order, list) or len(order) != len(conversation):
        raise BadOrder(None)
    for index, clearings in enumerate(order):
        if not between(clearings, 0, highest[index]):
            raise BadOrder(index)
    return list(order)


def most_clearings(conversation):
    """Return for each write the most clearings that an order may have directly before it."""
    starts = [start for endpoint, start, stop in turns(conversation)]
    highest = [MOST_CLEARINGS] * len(conversation)
    for start in starts:
        highest[start] = 0
    return highest
