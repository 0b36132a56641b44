"""A place is the state of a turn as a tuple (rest, stance); here is how one leads to the next (point 13)."""

from latewords.conversations import MOST_CLEARINGS


def first_place(quick):
    """Return the place at the beginning of a turn, with the listener's quick."""
    return (0, (False, False, False, 0, quick))


def written_place(stances, size, place, write):
    """Return the place after a write."""
    rest, stance = place
    endpoint, length, mode = write
    full, left = divmod(rest + length, size)
    after, is_sent, _ = stances.after_write(stance, full, left > 0, mode)
    return (0 if is_sent else left, after)


def cleared_places(stances, place):
    """Return the places after 0, 1 .. clearings, up to where one more changes nothing."""
    places = [place]
    for _ in range(MOST_CLEARINGS):
        rest, stance = places[-1]
        after, is_sent, acknowledgments = stances.after_clearing(stance, rest > 0)
        following = (0 if is_sent else rest, after)
        if following == places[-1]:
            break
        places.append(following)
    return places


def ended_place(stances, place):
    """Return (stalls, quick): the end of a turn after its last write."""
    rest, stance = place
    stalls, quick, acknowledgments = stances.at_end(stance, rest > 0)
    return (stalls, quick)
