"""Point 12: the fewest and the most stalls over all sequences of events."""

import random
import unittest

from latewords.errors import BadWrite, TooLong
from latewords.outcomes import least, most
from latewords.roads import Road
from latewords.searches import search
from latewords.settings import Policy, Setting
from tests.cases import some_case, some_policy
from tests.replay import Replay
from tests.values import strange_values

SEED = 20261120
EITHER = (Setting(2, Policy(every=1)), [(0, 3, "plain"), (0, 1, "plain")])


def segments_at_most(setting, conversation):
    return sum(length // setting.size + 1 for _, length, _ in conversation)


def all_stall_counts(road):
    """The stalls of every sequence of events from here on, one by one, with nothing saved."""
    if road.is_over:
        return [road.stall_count]
    found = []
    for event in road.possible():
        road.do(event)
        found.extend(all_stall_counts(road))
        road.undo()
    return found


class SearchTest(unittest.TestCase):
    def assert_sound(self, setting, conversation):
        """Each list of events is one sequence that ends where the conversation is finished, with so many stalls."""
        fewest, events_of_fewest, greatest, events_of_most = search(setting, conversation)
        for stalls, events in ((fewest, events_of_fewest), (greatest, events_of_most)):
            self.assertIsInstance(events, list)
            road, replay = Road(setting, conversation), Replay(setting, conversation)
            for event in events:
                self.assertFalse(road.is_over)
                self.assertIn(event, replay.possible())
                road.do(event)
                replay.do(event)
            self.assertTrue(road.is_over and replay.over())
            self.assertEqual((road.stall_count, replay.stalls), (stalls, stalls))
        return fewest, greatest

    def test_the_empty_conversation(self):
        self.assertEqual(search(Setting(1), []), (0, [], 0, []))

    def test_one_way_only(self):
        events = ["write", "arrive 0"]
        self.assertEqual(search(Setting(4), [(0, 3, "push")]), (0, events, 0, events))
        events = ["write", "timer", "arrive 1"]
        self.assertEqual(search(Setting(4), [(1, 3, "more")]), (1, events, 1, events))

    def test_a_stall_in_some_sequences(self):
        # If the second write meets the held rest, they are a full segment; else it is held itself, for ever.
        result = search(*EITHER)
        self.assertIsInstance(result, tuple)
        self.assertEqual((result[0], result[2]), (0, 1))
        self.assertEqual((result[1].count("timer"), result[3].count("timer")), (0, 1))
        self.assertEqual(self.assert_sound(*EITHER), (0, 1))

    def test_a_stall_in_each_sequence(self):
        # Each turn holds a rest behind a segment that is acknowledged in no sequence.
        setting, conversation = Setting(4), [(0, 2, "plain"), (0, 1, "plain"), (1, 5, "plain")]
        self.assertEqual(self.assert_sound(setting, conversation), (2, 2))

    def test_sequences_that_no_clearing_makes(self):
        # An acknowledgment alone may arrive between two writes, while later segments stay on the way.
        setting = Setting(2, Policy("partial", every=1, quick=1))
        conversation = [(0, 1, "plain"), (0, 1, "plain"), (0, 2, "plain"), (0, 1, "plain")]
        counts = all_stall_counts(Road(setting, conversation))
        self.assertEqual(self.assert_sound(setting, conversation), (min(counts), max(counts)))

    def test_the_number_of_early_segments(self):
        # The first turn sends two segments or three, and only then the third one differs.
        setting = Setting(4, Policy(every=0, quick=3))
        conversation = [(0, 1, "plain")] * 3 + [(1, 1, "push")] + [(0, 1, "plain")] * 2
        self.assertEqual(self.assert_sound(setting, conversation), (0, 1))
        turned = [(1 - endpoint, length, mode) for endpoint, length, mode in conversation]
        self.assertEqual(self.assert_sound(setting, turned), (0, 1))

    def test_a_stall_for_a_stall(self):
        setting = Setting(2, Policy(every=0), Policy(every=2, quick=3))
        conversation = [(0, 3, "plain"), (0, 1, "more"), (1, 2, "plain"), (0, 3, "more"), (0, 2, "plain")]
        result = search(setting, conversation)
        self.assertEqual((result[0], result[2]), (1, 1))
        self.assertEqual(self.assert_sound(setting, conversation), (1, 1))

    def test_all_sequences_one_by_one(self):
        chance = random.Random(SEED)
        tried, seen = 0, set()
        while tried < 1200:
            setting, conversation = some_case(chance, 5)
            if segments_at_most(setting, conversation) > 7:
                continue
            tried += 1
            counts = all_stall_counts(Road(setting, conversation))
            self.assertEqual(self.assert_sound(setting, conversation), (min(counts), max(counts)))
            seen.add((min(counts), max(counts)))
        self.assertTrue({(0, 0), (0, 1), (1, 1), (2, 2)} <= seen)

    def test_it_agrees_with_the_orders(self):
        chance = random.Random(SEED + 1)
        for _ in range(150):
            setting = Setting(chance.choice([2, 3, 5, 10]), some_policy(chance), some_policy(chance))
            conversation = []
            while segments_at_most(setting, conversation) <= 24:
                speaker = conversation[-1][0] if conversation and chance.random() < 0.8 else chance.randint(0, 1)
                mode = chance.choice(["plain", "plain", "plain", "push", "more"])
                conversation.append((speaker, chance.randint(1, 2 * setting.size), mode))
            conversation.pop()
            expected = (least(setting, conversation)[0], most(setting, conversation)[0])
            self.assertEqual(self.assert_sound(setting, conversation), expected)

    def test_long_sequences(self):
        setting = Setting(10, Policy("off", quick=4))
        conversation = [(at % 2, 1, "push") for at in range(24)]
        self.assertEqual(self.assert_sound(setting, conversation), (0, 0))
        conversation = [(at % 2, 1, "more") for at in range(24)]
        self.assertEqual(self.assert_sound(setting, conversation), (24, 24))


class BoundTest(unittest.TestCase):
    def test_sums_of_24_and_25(self):
        self.assertEqual(search(Setting(1), [(0, 23, "plain")])[0], 0)
        self.assertEqual(search(Setting(2), [(0, 7, "plain")] * 6)[0], 0)
        for size, conversation in (
            (1, [(0, 24, "plain")]), (10 ** 18, [(1, 1, "push")] * 25), (4, [(0, 15, "plain")] * 6 + [(1, 3, "plain")]),
            (5, [(0, 5, "plain")] * 12 + [(0, 4, "plain")]),
        ):
            with self.subTest(size=size, conversation=conversation):
                self.assertEqual(segments_at_most(Setting(size), conversation), 25)
                with self.assertRaises(TooLong) as caught:
                    search(Setting(size), conversation)
                self.assertEqual(caught.exception.many, 25)

    def test_far_above(self):
        for size, conversation, many in ((1, [(0, 300, "plain")], 301), (1, [(0, 10 ** 18, "more")], 10 ** 18 + 1),
                                         (7, [(0, 6, "plain")] * 200, 200)):
            with self.assertRaises(TooLong) as caught:
                search(Setting(size), conversation)
            self.assertEqual(caught.exception.many, many)

    def test_a_wrong_conversation_comes_first(self):
        for value in strange_values():
            if value not in ([],) and not (isinstance(value, list) and value == [(0, 1, "plain")]):
                with self.subTest(value=value), self.assertRaises(BadWrite) as caught:
                    search(Setting(1), value)
                index = 0 if isinstance(value, list) and len(value) <= 200 else None
                self.assertEqual(caught.exception.index, index)
        with self.assertRaises(BadWrite) as caught:
            search(Setting(1), [(0, 100, "plain"), (0, 0, "plain")])
        self.assertEqual(caught.exception.index, 1)
        with self.assertRaises(BadWrite) as caught:
            search(Setting(1), [(0, 1, "plain")] * 201)
        self.assertIsNone(caught.exception.index)


class ValuesTest(unittest.TestCase):
    def test_arguments_by_their_names(self):
        self.assertEqual(search(conversation=EITHER[1], setting=EITHER[0]), search(*EITHER))

    def test_arguments_stay_and_lists_are_new(self):
        conversation = list(EITHER[1])
        first = search(EITHER[0], conversation)
        self.assertEqual(conversation, EITHER[1])
        kept = repr(first)
        first[1].clear()
        first[3].append("write")
        self.assertEqual(repr(search(EITHER[0], conversation)), kept)
        same = search(Setting(4), [(0, 3, "push")])
        self.assertIsNot(same[1], same[3])


if __name__ == "__main__":
    unittest.main()
