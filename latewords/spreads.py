"""All states of a turn that some order reaches, for small sizes (point 15).

Many states differ only in their rests. A spread is a dict from a stance to these rests as the bits of one integer,
so that a step moves all of them at once: its time does not grow with the number of rests.
"""

from latewords.conversations import MOST_CLEARINGS


def spread_endings(stances, size, writes, quick):
    """Return the (stalls, quick) with which a turn can end that begins with the listener's quick, ascending."""
    spread = {(False, False, False, 0, quick): 1}
    for write in writes:
        # Ahead of the first write clearings are made too, but change nothing.
        spread = write_spread(stances, size, with_clearings(stances, spread), write)
    found = set()
    for stance, rests in spread.items():
        for has_rest, group in grouped(rests):
            stalls, left, _ = stances.at_end(stance, has_rest)
            found.add((stalls, left))
    return sorted(found)


def grouped(rests):
    """Return (False, the empty rest) and (True, the other rests), each if there are such rests."""
    groups = [(False, 1)] if rests & 1 else []
    others = rests >> 1 << 1
    return groups + [(True, others)] if others > 0 else groups


def with_clearings(stances, spread):
    """Return the states after each number of clearings that an order may have before a write."""
    found = {stance: rests for stance, rests in spread.items()}
    for _ in range(MOST_CLEARINGS):
        spread = clear_spread(stances, spread)
        for stance, rests in spread.items():
            found[stance] = found.get(stance, 0) | rests
    return found


def clear_spread(stances, spread):
    """Return the states after one clearing, but for those that it leaves as they are."""
    found = {}
    for stance, rests in spread.items():
        kept, blocked, stuck, pending, quick = stance
        # A clearing only lifts what is blocked now and will not be when all has arrived.
        if blocked and not stuck:
            for has_rest, group in grouped(rests):
                add_step(found, stances.after_clearing(stance, has_rest), group)
    return found


def write_spread(stances, size, spread, write):
    """Return the states after a write."""
    endpoint, length, mode = write
    full, shift = divmod(length, size)
    below = (1 << size) - 1
    found = {}
    for stance, rests in spread.items():
        moved = rests << shift
        # What is moved to the size or above gives one full segment more.
        for many, landed in ((full, moved & below), (full + 1, moved >> size)):
            for has_rest, group in grouped(landed):
                add_step(found, stances.after_write(stance, many, has_rest, mode), group)
    return found


def add_step(spread, step, rests):
    """Add to a spread what a step makes of these rests."""
    stance, is_sent, acknowledgments = step
    spread[stance] = spread.get(stance, 0) | (1 if is_sent else rests)
