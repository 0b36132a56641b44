"""Settings and conversations for the tests, drawn by a seeded random source."""

import itertools

from latewords.conversations import MODES, turns
from latewords.settings import Policy, Setting


def some_policy(chance):
    return Policy(chance.choice(Policy.HOLDS), every=chance.choice([0, 1, 1, 2, 2, 3, 9]),
                  quick=chance.choice([0, 0, 1, 2, 4]))


def some_case(chance, most_writes=7):
    setting = Setting(chance.randint(1, 5), some_policy(chance), some_policy(chance))
    writes = []
    for _ in range(chance.randint(0, most_writes)):
        speaker = writes[-1][0] if writes and chance.random() < 0.65 else chance.randint(0, 1)
        writes.append((speaker, chance.randint(1, 11), chance.choice(MODES + ("plain",))))
    return setting, writes


def orders_of(conversation):
    starts = [start for _, start, _ in turns(conversation)]
    return itertools.product(*[[0] if at in starts else [0, 1, 2] for at in range(len(conversation))])
