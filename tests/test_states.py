"""Point 13: the states of a turn, by hand and against a road that keeps each byte by itself."""

import copy
import itertools
import random
import unittest

from latewords.conversations import MODES, turns
from latewords.settings import Policy, Setting
from latewords.states import TurnState, cleared, ended, written
from tests.cases import some_case
from tests.replay import Replay
from tests.values import strange_values

SEED = 20261121
FIELDS = ("rest", "kept", "blocked", "stuck", "pending", "quick")
LARGE = 10 ** 18


def fields(state):
    return tuple(getattr(state, name) for name in FIELDS)


def state_seen(replay, speaker):
    """The state within a turn, as point 13 says it, looked up on a road of single bytes."""
    listener = 1 - speaker
    policy = replay.setting.policies[listener]
    later = copy.deepcopy(replay)
    # A kept rest is one that no acknowledgment sends, so nothing is sent while everything arrives.
    later.kept[speaker] = bool(later.rest[speaker])
    for endpoint in (speaker, listener):
        while later.way(endpoint):
            later.arrive(endpoint)
    return TurnState(
        len(replay.rest[speaker]), replay.kept[speaker], not replay.permits(speaker), not later.permits(speaker),
        later.pending(listener) if policy.every else 0, max(0, policy.quick - later.segments(listener)))


def make_clearing(replay, speaker):
    for endpoint in (speaker, 1 - speaker):
        for _ in replay.way(endpoint):
            if not replay.over():
                replay.do(f"arrive {endpoint}")


def make_end(replay, speaker):
    """Bring a turn to its end and return its stalls."""
    before = replay.stalls
    for _ in (0, 1):
        while (replay.way(0) or replay.way(1)) and not replay.over():
            make_clearing(replay, speaker)
        if not replay.heard_all(1 - speaker):
            replay.do("timer")
    return replay.stalls - before


class StateTest(unittest.TestCase):
    def test_defaults(self):
        self.assertEqual(vars(TurnState()), {"rest": 0, "kept": False, "blocked": False, "stuck": False,
                                             "pending": 0, "quick": 0})

    def test_attributes_by_position_and_by_name(self):
        state = TurnState(2, False, True, True, 1, 0)
        self.assertEqual(fields(state), (2, False, True, True, 1, 0))
        self.assertEqual(TurnState(quick=4, pending=3, stuck=True, blocked=True, kept=True, rest=LARGE),
                         TurnState(LARGE, True, True, True, 3, 4))
        self.assertEqual(fields(TurnState(rest=1, blocked=True)), (1, False, True, False, 0, 0))

    def test_equality(self):
        some = (2, False, True, True, 1, 0)
        self.assertTrue(TurnState(*some) == TurnState(*some))
        self.assertFalse(TurnState(*some) != TurnState(*some))
        for place, value in enumerate((3, True, False, False, 0, 1)):
            other = some[:place] + (value,) + some[place + 1:]
            self.assertFalse(TurnState(*some) == TurnState(*other), FIELDS[place])
            self.assertTrue(TurnState(*some) != TurnState(*other), FIELDS[place])
        for value in strange_values() + [some, list(some), repr(TurnState(*some))]:
            self.assertFalse(TurnState(*some) == value)
            self.assertFalse(value == TurnState(*some))
            self.assertFalse(TurnState() == value)

    def test_repr(self):
        self.assertEqual(repr(TurnState(2, False, True, True, 1, 0)), "TurnState(2, False, True, True, 1, 0)")
        self.assertEqual(repr(TurnState()), "TurnState(0, False, False, False, 0, 0)")
        self.assertEqual(repr(TurnState(LARGE - 1, True, quick=4)),
                         "TurnState(999999999999999999, True, False, False, 0, 4)")


class HandTest(unittest.TestCase):
    """Each turn is given as writes (length, mode) and clearings (None), with the state after each."""

    def assert_turn(self, setting, steps, start=TurnState()):
        state = start
        for step, expected in steps:
            if step is None:
                state = cleared(setting, 0, state)
            else:
                state = written(setting, 0, state, *step)
            self.assertIsInstance(state, TurnState)
            self.assertEqual(state, TurnState(*expected), step)
            for name, kind in zip(FIELDS, (int, bool, bool, bool, int, int)):
                self.assertIs(type(getattr(state, name)), kind, name)
        return state

    def test_a_held_rest(self):
        setting = Setting(4)
        state = self.assert_turn(setting, [
            ((2,), (0, False, True, True, 0, 0)), ((1,), (1, False, True, True, 0, 0)),
            (None, (1, False, True, True, 0, 0)),
        ])
        self.assertEqual(ended(setting, 0, state), (1, 0))

    def test_a_held_rest_that_grows_to_full_segments(self):
        setting = Setting(4)
        state = self.assert_turn(setting, [
            ((2,), (0, False, True, True, 0, 0)), ((1,), (1, False, True, True, 0, 0)),
            ((3,), (0, False, True, True, 1, 0)), ((6,), (2, False, True, False, 0, 0)),
            (None, (0, False, True, True, 0, 0)),
        ])
        self.assertEqual(ended(setting, 0, state), (0, 0))

    def test_a_held_rest_that_the_end_sends(self):
        setting = Setting(4, Policy(every=1))
        state = self.assert_turn(setting, [((5,), (1, False, True, False, 0, 0))])
        self.assertEqual(ended(setting, 0, state), (0, 0))
        self.assertEqual(cleared(setting, 0, state), TurnState(0, False, True, True, 0, 0))

    def test_a_kept_rest(self):
        setting = Setting(4)
        state = self.assert_turn(setting, [
            ((2, "more"), (2, True, False, False, 0, 0)), (None, (2, True, False, False, 0, 0)),
            ((1, "more"), (3, True, False, False, 0, 0)),
        ])
        self.assertEqual(ended(setting, 0, state), (1, 0))
        self.assertEqual(written(setting, 0, state, 2, "more"), TurnState(1, True, True, True, 1, 0))
        self.assertEqual(written(setting, 0, state, 2), TurnState(1, False, True, True, 1, 0))
        self.assertEqual(written(setting, 0, state, 2, "push"), TurnState(0, False, True, True, 1, 0))
        self.assertEqual(written(setting, 0, state, 1, "more"), TurnState(0, False, True, True, 1, 0))
        self.assertEqual(written(Setting(5), 0, state, 1), TurnState(0, False, True, True, 0, 0))

    def test_quick(self):
        setting = Setting(4, Policy(every=3, quick=2))
        first = (0, False, True, False, 0, 1)
        self.assert_turn(setting, [((1,), first), ((1,), (1, False, True, False, 0, 1)),
                                   (None, (0, False, True, False, 0, 0)), (None, (0, False, False, False, 0, 0)),
                                   ((1,), (0, False, True, True, 0, 0))], TurnState(quick=2))
        self.assertEqual(ended(setting, 0, TurnState(1, False, True, False, 0, 1)), (0, 0))
        self.assertEqual(ended(setting, 0, TurnState(1, True, False, False, 0, 2)), (1, 1))
        self.assertEqual(ended(setting, 0, TurnState(0, False, True, False, 0, 2)), (0, 2))

    def test_the_last_quick_segment_leaves_nothing_pending(self):
        setting = Setting(4, Policy(every=3, quick=4))
        for full, expected in ((4, (0, 0)), (5, (1, 0)), (6, (2, 0)), (7, (0, 0)), (8, (1, 0)), (3, (0, 1))):
            state = written(setting, 0, TurnState(quick=4), 4 * full)
            self.assertEqual((state.pending, state.quick), expected)
            self.assertEqual(state.stuck, expected[0] > 0)

    def test_off_never_blocks(self):
        setting = Setting(4, Policy("off", every=2))
        state = self.assert_turn(setting, [((5,), (0, False, False, False, 1, 0)), (None, (0, False, False, False, 1, 0)),
                                           ((2, "more"), (2, True, False, False, 1, 0)),
                                           ((6,), (0, False, False, False, 1, 0))])
        self.assertEqual(ended(setting, 0, state), (0, 0))
        self.assertEqual(written(setting, 0, TurnState(), 4), TurnState(pending=1))

    def test_partial_is_not_blocked_by_full_segments(self):
        setting = Setting(4, Policy("partial", every=2))
        self.assert_turn(setting, [((4,), (0, False, False, False, 1, 0)), ((1,), (0, False, True, True, 1, 0)),
                                   ((1,), (1, False, True, True, 1, 0)), ((4,), (1, False, True, False, 0, 0)),
                                   ((4,), (1, False, True, False, 1, 0)), (None, (0, False, True, True, 1, 0))])

    def test_each_listener_has_its_own_policy(self):
        setting = Setting(4, Policy("all", every=1), Policy("off", every=2))
        self.assertEqual(written(setting, 0, TurnState(), 5), TurnState(1, False, True, True, 1, 0))
        self.assertEqual(written(setting, 1, TurnState(), 5), TurnState(0, False, False, False, 0, 0))
        self.assertEqual(written(setting, 1, TurnState(quick=1), 1), TurnState(0, False, False, False, 0, 0))

    def test_around_multiples_of_the_size(self):
        for size in range(2, 7):
            for full in (1, 2, 3):
                setting = Setting(size, Policy("all", every=2))
                pending, stuck = full % 2, full % 2 == 1
                exact = TurnState(0, False, True, stuck, pending, 0)
                self.assertEqual(written(setting, 0, TurnState(), full * size), exact)
                above = TurnState(1, False, True, stuck, pending, 0)
                self.assertEqual(written(setting, 0, TurnState(), full * size + 1), above)
                kept = TurnState(size - 1, True, full > 1, full > 1 and not stuck, (full - 1) % 2, 0)
                self.assertEqual(written(setting, 0, TurnState(), full * size - 1, "more"), kept)

    def test_what_is_passed_stays_as_it_was(self):
        setting = Setting(4)
        state = TurnState(1, False, True, True, 0, 0)
        for function, rest in ((written, (7, "more")), (cleared, ()), (ended, ())):
            first = function(setting, 0, state, *rest)
            self.assertEqual(state, TurnState(1, False, True, True, 0, 0))
            self.assertEqual(function(setting, 0, state, *rest), first)
            self.assertIsNot(first, state)
        self.assertIsInstance(ended(setting, 0, state), tuple)

    def test_arguments_by_their_names(self):
        setting, state = Setting(4), TurnState(quick=1)
        self.assertEqual(written(mode="more", length=5, state=state, speaker=1, setting=setting),
                         written(setting, 1, state, 5, "more"))
        self.assertEqual(cleared(state=state, speaker=1, setting=setting), cleared(setting, 1, state))
        self.assertEqual(ended(state=state, speaker=1, setting=setting), ended(setting, 1, state))


class ReplayTest(unittest.TestCase):
    def assert_like_replay(self, chance, setting, conversation):
        """Go through all turns with any clearings between the writes; each state is seen on the road too."""
        replay = Replay(setting, conversation)
        quicks = [policy.quick for policy in setting.policies]
        for speaker, start, stop in turns(conversation):
            state = TurnState(quick=quicks[1 - speaker])
            self.assertEqual(state, state_seen(replay, speaker))
            for index in range(start, stop):
                for _ in range(chance.randint(0, 3) if index > start else 0):
                    make_clearing(replay, speaker)
                    state = cleared(setting, speaker, state)
                    self.assertEqual(state, state_seen(replay, speaker), (setting, conversation, index))
                replay.do("write")
                state = written(setting, speaker, state, *conversation[index][1:])
                self.assertEqual(state, state_seen(replay, speaker), (setting, conversation, index))
            stalls = make_end(replay, speaker)
            quicks[1 - speaker] = state_seen(replay, speaker).quick
            self.assertEqual(ended(setting, speaker, state), (stalls, quicks[1 - speaker]), (setting, conversation))

    def test_each_policy_and_each_size(self):
        chance = random.Random(SEED)
        for hold, every, quick, size in itertools.product(Policy.HOLDS, range(10), range(5), range(1, 7)):
            setting = Setting(size, Policy(hold, every=every, quick=quick))
            conversation = [(0, chance.choice([1, size - 1, size, size + 1, 2 * size, 2 * size + 1]) or 1,
                             chance.choice(MODES + ("plain",))) for _ in range(6)]
            self.assert_like_replay(chance, setting, conversation)

    def test_each_pair_of_writes(self):
        # A second write in each mode after a first one in each mode, from a rest that is held or kept or none.
        chance = random.Random(SEED + 1)
        for hold, first, second, clearings in itertools.product(Policy.HOLDS, MODES, MODES, range(3)):
            for every, quick, size in ((0, 0, 3), (1, 0, 2), (1, 1, 3), (2, 0, 4), (2, 2, 2), (3, 1, 1)):
                setting = Setting(size, Policy(hold, every=every, quick=quick))
                lengths = [chance.randint(1, 2 * size + 1) for _ in range(4)]
                conversation = [(0, length, mode) for length, mode in zip(lengths, ("plain", first, second, "plain"))]
                self.assert_like_replay(chance, setting, conversation)

    def test_conversations_of_several_turns(self):
        chance = random.Random(SEED + 2)
        for _ in range(500):
            setting, conversation = some_case(chance)
            self.assert_like_replay(chance, setting, conversation)


class LargeTest(unittest.TestCase):
    def test_all_lengths_grow_with_the_size(self):
        chance = random.Random(SEED + 3)
        for _ in range(400):
            small, conversation = some_case(chance)
            factor = chance.choice([10 ** 16, LARGE // small.size, LARGE // max(small.size, 11)])
            large = small.changed(size=small.size * factor)
            for speaker, start, stop in turns(conversation):
                quick = small.policies[1 - speaker].quick
                one, other = TurnState(quick=quick), TurnState(quick=quick)
                for _, length, mode in conversation[start:stop]:
                    for _ in range(chance.randint(0, 2)):
                        one, other = cleared(small, speaker, one), cleared(large, speaker, other)
                    one = written(small, speaker, one, length, mode)
                    other = written(large, speaker, other, length * factor, mode)
                    self.assertEqual((one.rest * factor,) + fields(one)[1:], fields(other))
                self.assertEqual(ended(small, speaker, one), ended(large, speaker, other))

    def test_full_segments_repeat(self):
        # What many full segments lead to is what so many fewer do that only rounds of `every` are left out.
        chance = random.Random(SEED + 4)
        for hold, every, quick, size in itertools.product(Policy.HOLDS, (0, 1, 2, 7, 9), (0, 1, 4), (1, 2, 3, 10 ** 9)):
            setting = Setting(size, Policy(hold, every=every, quick=quick))
            for length in (LARGE, LARGE - 1, LARGE - chance.randint(2, 10 ** 9)):
                full, rest = divmod(length, size)
                few = quick + max(every, 1) + (full - quick) % max(every, 1)
                for mode in MODES:
                    big = written(setting, 0, TurnState(quick=quick), length, mode)
                    self.assertEqual(big, written(setting, 0, TurnState(quick=quick), few * size + rest, mode))

    def test_the_largest_size(self):
        setting = Setting(LARGE, Policy(every=1))
        held = TurnState(LARGE - 1, False, True, True, 0, 0)
        self.assertEqual(written(setting, 0, TurnState(0, False, True, True, 0, 0), LARGE - 1), held)
        self.assertEqual(written(setting, 0, held, 1), TurnState(0, False, True, False, 0, 0))
        self.assertEqual(written(setting, 0, held, LARGE), TurnState(LARGE - 1, False, True, False, 0, 0))
        self.assertEqual(ended(setting, 0, held), (1, 0))

    def test_size_one_leaves_no_rest(self):
        setting = Setting(1, Policy(every=9, quick=4))
        state = written(setting, 0, TurnState(quick=4), LARGE, "more")
        self.assertEqual(state, TurnState(0, False, True, True, (LARGE - 4) % 9, 0))


if __name__ == "__main__":
    unittest.main()
