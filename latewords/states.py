"""The states of a turn (point 13)."""

from latewords.courses import Course


class TurnState:
    """What matters within a turn: the speaker's rest, what it is permitted, and the listener's counts."""

    def __init__(self, rest=0, kept=False, blocked=False, stuck=False, pending=0, quick=0):
        self.rest = rest
        self.kept = kept
        self.blocked = blocked
        self.stuck = stuck
        self.pending = pending
        self.quick = quick

    def __eq__(self, other):
        return (isinstance(other, TurnState) and self.rest == other.rest and self.kept == other.kept
                and self.blocked == other.blocked and self.stuck == other.stuck
                and self.pending == other.pending and self.quick == other.quick)

    def __repr__(self):
        return f"TurnState({self.rest}, {self.kept}, {self.blocked}, {self.stuck}, {self.pending}, {self.quick})"


def written(setting, speaker, state, length, mode="plain"):
    """Return the state after a write."""
    course = course_from(setting, speaker, state)
    course.make_write(length, mode)
    return state_of(course)


def cleared(setting, speaker, state):
    """Return the state after a clearing."""
    course = course_from(setting, speaker, state)
    course.make_clearing()
    return state_of(course)


def ended(setting, speaker, state):
    """Return (stalls, quick): the end of a turn whose last write led to the state."""
    return course_from(setting, speaker, state).make_end()


def course_from(setting, speaker, state):
    """Return a course that begins at a state."""
    stance = (state.kept, state.blocked, state.stuck, state.pending, state.quick)
    return Course(setting, speaker, state.rest, stance)


def state_of(course):
    """Return the state at which a course is."""
    return TurnState(course.rest, *course.stance)
