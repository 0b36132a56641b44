"""The fewest writes or edges whose modes must be others so that nothing stalls (point 21)."""

from latewords.conversations import check
from latewords.errors import BadTalk, BadWrite, TooLong
from latewords.integers import between
from latewords.outcomes import most
from latewords.talks import Talk
from latewords.worst import first_stall

MOST_CURED = 8


def cure(setting, conversation, *, mode="push"):
    """Return the shortest list of writes that need a mode so that nothing stalls, and why no shorter one does."""
    check(conversation)
    if len(conversation) > MOST_CURED:
        raise TooLong(len(conversation))
    refusals = []
    for chosen in choices(list(range(len(conversation)))):
        stalls, order = most(setting, changed_conversation(conversation, chosen, mode))
        if stalls == 0:
            return (chosen, shorter(refusals, chosen))
        refusals.append((chosen, order))
    return (None, refusals)


def cure_talk(talk, setting, *, mode="push"):
    """Return the shortest list of useful edges that need a mode so that nothing stalls, and why no shorter one does."""
    numbers = talk.useful()
    if len(numbers) > MOST_CURED:
        raise TooLong(len(numbers))
    refusals = []
    for chosen in choices(numbers):
        found = first_stall(changed_talk(talk, chosen, mode), setting)
        if found is None:
            return (chosen, shorter(refusals, chosen))
        path, order = found
        refusals.append((chosen, path, order))
    return (None, refusals)


def choices(numbers):
    """Return all lists of some ascending numbers, each ascending, by length and then as lists compare."""
    longest = [[]]
    found = [[]]
    for _ in numbers:
        longest = [chosen + [number] for chosen in longest for number in numbers if number > max(chosen, default=-1)]
        found = found + longest
    return found


def shorter(refusals, chosen):
    """Return the refusals of lists that are shorter than the chosen one."""
    return [refusal for refusal in refusals if len(refusal[0]) < len(chosen)]


def changed_conversation(conversation, choice, mode):
    """Return a conversation with the modes of some writes replaced."""
    check(conversation)
    for index in choice:
        if not between(index, 0, len(conversation) - 1):
            raise BadWrite(index)
    return [(endpoint, length, mode if index in choice else before)
            for index, (endpoint, length, before) in enumerate(conversation)]


def changed_talk(talk, choice, mode):
    """Return a talk with the modes of some edges replaced."""
    for number in choice:
        if not between(number, 0, len(talk) - 1):
            raise BadTalk(number)
    edges = [edge[:4] + (mode,) if number in choice else edge for number, edge in enumerate(talk.edges())]
    return Talk(talk.node_count, talk.first_node, talk.ends(), edges)
