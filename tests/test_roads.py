"""Points 3 to 7 and 11: roads played event by event against answers reckoned by hand."""

import unittest

from latewords.errors import BadWrite, NothingDone, NotPossible, TooLong
from latewords.roads import Road
from latewords.settings import Policy, Setting
from tests.values import picture, side_of, strange_values

EVENTS = ["write", "arrive 0", "arrive 1", "timer"]
NOTHING = (0, False, 0, 0, 0, 0, 0, [])


class PlayedTest(unittest.TestCase):
    def assert_refused(self, road, event):
        before = picture(road)
        with self.assertRaises(NotPossible) as caught:
            road.do(event)
        self.assertIs(caught.exception.event, event)
        self.assertEqual(picture(road), before)

    def assert_undone(self, road, event, before, after):
        self.assertEqual(road.undo(), event)
        self.assertEqual(picture(road), before)
        self.assertIsNone(road.do(event))
        self.assertEqual(picture(road), after)

    def assert_played(self, setting, conversation, steps):
        """Each step: event, stalls, what is possible then, the two sides as `side_of` tells them."""
        road = Road(setting, conversation)
        self.assertEqual(picture(road), (["write"], False, 0, 0, [], NOTHING, NOTHING))
        log = []
        for event, stalls, possible, zero, one in steps:
            for other in EVENTS:
                if other not in road.possible():
                    self.assert_refused(road, other)
            before = picture(road)
            self.assertIsNone(road.do(event))
            log.append(event)
            after = picture(road)
            self.assertEqual(after, (possible, possible == [], stalls, len(log), log, zero, one), log)
            self.assert_undone(road, event, before, after)
        last = picture(road)
        for event in reversed(log):
            self.assertEqual(road.undo(), event)
        self.assertEqual(picture(road), (["write"], False, 0, 0, [], NOTHING, NOTHING))
        for event in log:
            road.do(event)
        self.assertEqual(picture(road), last)
        return road

    def segments_of(self, setting, *writes):
        """What endpoint 0 puts on the way by writes at once, its rest, and whether it is kept."""
        road = Road(setting, list(writes))
        for _ in writes:
            road.do("write")
        return ([length for length, acknowledged in road.way_from(0)], road.rest_of(0), road.keeps(0))


class HandPlayedTest(PlayedTest):
    def test_held_rests_of_both_endpoints(self):
        self.assert_played(Setting(4), [(0, 2, "plain"), (0, 1, "plain"), (1, 5, "plain")], [
            ("write", 0, ["write", "arrive 0"], (0, False, 2, 0, 0, 0, 0, [(2, 0)]), NOTHING),
            ("write", 0, ["arrive 0"], (1, False, 2, 0, 0, 0, 0, [(2, 0)]), NOTHING),
            ("arrive 0", 0, ["timer"], (1, False, 2, 0, 0, 0, 0, []), (0, False, 0, 0, 2, 0, 1, [])),
            ("timer", 1, ["arrive 1"], (1, False, 2, 0, 0, 0, 0, []), (0, False, 0, 0, 2, 0, 1, [(0, 2)])),
            ("arrive 1", 1, ["arrive 0"], (0, False, 3, 2, 0, 0, 0, [(1, 0)]), (0, False, 0, 0, 2, 0, 1, [])),
            ("arrive 0", 1, ["write"], (0, False, 3, 2, 0, 0, 0, []), (0, False, 0, 0, 3, 0, 2, [])),
            ("write", 1, ["arrive 1"], (0, False, 3, 2, 0, 0, 0, []), (1, False, 4, 0, 3, 0, 2, [(4, 3)])),
            ("arrive 1", 1, ["timer"], (0, False, 3, 3, 4, 1, 1, []), (1, False, 4, 0, 3, 0, 2, [])),
            ("timer", 2, ["arrive 0"], (0, False, 3, 3, 4, 0, 1, [(0, 4)]), (1, False, 4, 0, 3, 0, 2, [])),
            ("arrive 0", 2, ["arrive 1"], (0, False, 3, 3, 4, 0, 1, []), (0, False, 5, 4, 3, 0, 2, [(1, 3)])),
            ("arrive 1", 2, [], (0, False, 3, 3, 5, 0, 2, []), (0, False, 5, 4, 3, 0, 2, [])),
        ])

    def test_partial_waits_for_its_partial_segment_only(self):
        conversation = [(0, 6, "plain"), (0, 5, "plain"), (1, 1, "plain")]
        self.assert_played(Setting(4, Policy("partial")), conversation, [
            ("write", 0, ["write", "arrive 0"], (0, False, 6, 0, 0, 0, 0, [(4, 0), (2, 0)]), NOTHING),
            ("write", 0, ["arrive 0"], (1, False, 10, 0, 0, 0, 0, [(4, 0), (2, 0), (4, 0)]), NOTHING),
            ("arrive 0", 0, ["arrive 0"], (1, False, 10, 0, 0, 0, 0, [(2, 0), (4, 0)]), (0, False, 0, 0, 4, 1, 1, [])),
            ("arrive 0", 0, ["arrive 0"], (1, False, 10, 0, 0, 0, 0, [(4, 0)]), (0, False, 0, 0, 6, 1, 2, [])),
            ("arrive 0", 0, ["arrive 1"], (1, False, 10, 0, 0, 0, 0, []), (0, False, 0, 0, 10, 0, 3, [(0, 10)])),
            ("arrive 1", 0, ["arrive 0"], (0, False, 11, 10, 0, 0, 0, [(1, 0)]), (0, False, 0, 0, 10, 0, 3, [])),
            ("arrive 0", 0, ["write"], (0, False, 11, 10, 0, 0, 0, []), (0, False, 0, 0, 11, 0, 4, [])),
            ("write", 0, ["arrive 1"], (0, False, 11, 10, 0, 0, 0, []), (0, False, 1, 0, 11, 0, 4, [(1, 11)])),
            ("arrive 1", 0, [], (0, False, 11, 11, 1, 0, 1, []), (0, False, 1, 0, 11, 0, 4, [])),
        ])

    def test_partial_stays_held_while_its_partial_segment_is_unacknowledged(self):
        # The acknowledgment of the full segment alone does not cover the partial one behind it.
        conversation = [(0, 3, "plain"), (0, 1, "plain")]
        self.assert_played(Setting(2, Policy("partial", every=1)), conversation, [
            ("write", 0, ["write", "arrive 0"], (0, False, 3, 0, 0, 0, 0, [(2, 0), (1, 0)]), NOTHING),
            ("write", 0, ["arrive 0"], (1, False, 3, 0, 0, 0, 0, [(2, 0), (1, 0)]), NOTHING),
            ("arrive 0", 0, ["arrive 0", "arrive 1"], (1, False, 3, 0, 0, 0, 0, [(1, 0)]),
             (0, False, 0, 0, 2, 0, 1, [(0, 2)])),
            ("arrive 1", 0, ["arrive 0"], (1, False, 3, 2, 0, 0, 0, [(1, 0)]), (0, False, 0, 0, 2, 0, 1, [])),
            ("arrive 0", 0, ["timer"], (1, False, 3, 2, 0, 0, 0, []), (0, False, 0, 0, 3, 0, 2, [])),
            ("timer", 1, ["arrive 1"], (1, False, 3, 2, 0, 0, 0, []), (0, False, 0, 0, 3, 0, 2, [(0, 3)])),
            ("arrive 1", 1, ["arrive 0"], (0, False, 4, 3, 0, 0, 0, [(1, 0)]), (0, False, 0, 0, 3, 0, 2, [])),
            ("arrive 0", 1, [], (0, False, 4, 3, 0, 0, 0, []), (0, False, 0, 0, 4, 0, 3, [])),
        ])

    def test_an_acknowledgment_leaves_a_kept_rest_and_sends_a_held_one(self):
        self.assert_played(Setting(2, Policy("all", every=1)), [(0, 3, "more"), (0, 2, "plain")], [
            ("write", 0, ["write", "arrive 0"], (1, True, 2, 0, 0, 0, 0, [(2, 0)]), NOTHING),
            ("arrive 0", 0, ["write", "arrive 1"], (1, True, 2, 0, 0, 0, 0, []), (0, False, 0, 0, 2, 0, 1, [(0, 2)])),
            ("arrive 1", 0, ["write"], (1, True, 2, 2, 0, 0, 0, []), (0, False, 0, 0, 2, 0, 1, [])),
            ("write", 0, ["arrive 0"], (1, False, 4, 2, 0, 0, 0, [(2, 0)]), (0, False, 0, 0, 2, 0, 1, [])),
            ("arrive 0", 0, ["arrive 1"], (1, False, 4, 2, 0, 0, 0, []), (0, False, 0, 0, 4, 0, 2, [(0, 4)])),
            ("arrive 1", 0, ["arrive 0"], (0, False, 5, 4, 0, 0, 0, [(1, 0)]), (0, False, 0, 0, 4, 0, 2, [])),
            ("arrive 0", 0, [], (0, False, 5, 4, 0, 0, 0, []), (0, False, 0, 0, 5, 0, 3, [])),
        ])

    def test_the_timer_sends_a_kept_rest_whatever_the_policy_says(self):
        self.assert_played(Setting(2, Policy("all", every=0)), [(1, 3, "more"), (0, 1, "plain")], [
            ("write", 0, ["arrive 1"], NOTHING, (1, True, 2, 0, 0, 0, 0, [(2, 0)])),
            ("arrive 1", 0, ["timer"], (0, False, 0, 0, 2, 1, 1, []), (1, True, 2, 0, 0, 0, 0, [])),
            ("timer", 1, ["arrive 1"], (0, False, 0, 0, 2, 1, 1, []), (0, False, 3, 0, 0, 0, 0, [(1, 0)])),
            ("arrive 1", 1, ["write"], (0, False, 0, 0, 3, 1, 2, []), (0, False, 3, 0, 0, 0, 0, [])),
            ("write", 1, ["arrive 0"], (0, False, 1, 0, 3, 0, 2, [(1, 3)]), (0, False, 3, 0, 0, 0, 0, [])),
            ("arrive 0", 1, [], (0, False, 1, 0, 3, 0, 2, []), (0, False, 3, 3, 1, 0, 1, [])),
        ])

    def test_a_held_rest_becomes_a_kept_one(self):
        conversation = [(0, 2, "plain"), (0, 1, "plain"), (0, 1, "more")]
        self.assert_played(Setting(4, Policy(), Policy(quick=1)), conversation, [
            ("write", 0, ["write", "arrive 0"], (0, False, 2, 0, 0, 0, 0, [(2, 0)]), NOTHING),
            ("write", 0, ["write", "arrive 0"], (1, False, 2, 0, 0, 0, 0, [(2, 0)]), NOTHING),
            ("write", 0, ["arrive 0"], (2, True, 2, 0, 0, 0, 0, [(2, 0)]), NOTHING),
            ("arrive 0", 0, ["arrive 1"], (2, True, 2, 0, 0, 0, 0, []), (0, False, 0, 0, 2, 0, 1, [(0, 2)])),
            ("arrive 1", 0, ["timer"], (2, True, 2, 2, 0, 0, 0, []), (0, False, 0, 0, 2, 0, 1, [])),
            ("timer", 1, ["arrive 0"], (0, False, 4, 2, 0, 0, 0, [(2, 0)]), (0, False, 0, 0, 2, 0, 1, [])),
            ("arrive 0", 1, [], (0, False, 4, 2, 0, 0, 0, []), (0, False, 0, 0, 4, 0, 2, [])),
        ])

    def test_the_first_segments_are_counted_through_all_turns(self):
        # Endpoint 0 acknowledges its first two segments at once, endpoint 1 none; each answers once.
        conversation = [(1, 1, "plain"), (0, 1, "plain"), (1, 1, "plain"), (1, 1, "plain"), (1, 1, "plain")]
        self.assert_played(Setting(4, Policy(quick=2), Policy()), conversation, [
            ("write", 0, ["arrive 1"], NOTHING, (0, False, 1, 0, 0, 0, 0, [(1, 0)])),
            ("arrive 1", 0, ["write", "arrive 0"], (0, False, 0, 0, 1, 0, 1, [(0, 1)]), (0, False, 1, 0, 0, 0, 0, [])),
            ("write", 0, ["arrive 0"], (0, False, 1, 0, 1, 0, 1, [(0, 1), (1, 1)]), (0, False, 1, 0, 0, 0, 0, [])),
            ("arrive 0", 0, ["arrive 0"], (0, False, 1, 0, 1, 0, 1, [(1, 1)]), (0, False, 1, 1, 0, 0, 0, [])),
            ("arrive 0", 0, ["write"], (0, False, 1, 0, 1, 0, 1, []), (0, False, 1, 1, 1, 0, 1, [])),
            ("write", 0, ["write", "arrive 1"], (0, False, 1, 0, 1, 0, 1, []), (0, False, 2, 1, 1, 0, 1, [(1, 1)])),
            ("write", 0, ["write", "arrive 1"], (0, False, 1, 0, 1, 0, 1, []), (1, False, 2, 1, 1, 0, 1, [(1, 1)])),
            ("arrive 1", 0, ["write", "arrive 0"], (0, False, 1, 1, 2, 0, 2, [(0, 2)]),
             (1, False, 2, 1, 1, 0, 1, [])),
            ("arrive 0", 0, ["write", "arrive 1"], (0, False, 1, 1, 2, 0, 2, []), (0, False, 3, 2, 1, 0, 1, [(1, 1)])),
            ("write", 0, ["arrive 1"], (0, False, 1, 1, 2, 0, 2, []), (1, False, 3, 2, 1, 0, 1, [(1, 1)])),
            ("arrive 1", 0, ["timer"], (0, False, 1, 1, 3, 0, 3, []), (1, False, 3, 2, 1, 0, 1, [])),
            ("timer", 1, ["arrive 0"], (0, False, 1, 1, 3, 0, 3, [(0, 3)]), (1, False, 3, 2, 1, 0, 1, [])),
            ("arrive 0", 1, ["arrive 1"], (0, False, 1, 1, 3, 0, 3, []), (0, False, 4, 3, 1, 0, 1, [(1, 1)])),
            ("arrive 1", 1, [], (0, False, 1, 1, 4, 0, 4, []), (0, False, 4, 3, 1, 0, 1, [])),
        ])

    def test_a_kept_rest_leaves_what_is_pending(self):
        self.assert_played(Setting(2), [(1, 2, "plain"), (0, 1, "more")], [
            ("write", 0, ["arrive 1"], NOTHING, (0, False, 2, 0, 0, 0, 0, [(2, 0)])),
            ("arrive 1", 0, ["write"], (0, False, 0, 0, 2, 1, 1, []), (0, False, 2, 0, 0, 0, 0, [])),
            ("write", 0, ["timer"], (1, True, 0, 0, 2, 1, 1, []), (0, False, 2, 0, 0, 0, 0, [])),
            ("timer", 1, ["arrive 0"], (0, False, 1, 0, 2, 0, 1, [(1, 2)]), (0, False, 2, 0, 0, 0, 0, [])),
            ("arrive 0", 1, [], (0, False, 1, 0, 2, 0, 1, []), (0, False, 2, 2, 1, 0, 1, [])),
        ])

    def test_a_finished_conversation_may_leave_things_on_the_way(self):
        road = self.assert_played(Setting(2, Policy(every=1)), [(0, 2, "plain")], [
            ("write", 0, ["arrive 0"], (0, False, 2, 0, 0, 0, 0, [(2, 0)]), NOTHING),
            ("arrive 0", 0, [], (0, False, 2, 0, 0, 0, 0, []), (0, False, 0, 0, 2, 0, 1, [(0, 2)])),
        ])
        for event in EVENTS + strange_values():
            self.assert_refused(road, event)

    def test_large_lengths(self):
        most = 10 ** 18
        self.assert_played(Setting(most), [(0, most, "plain"), (0, most - 1, "plain")], [
            ("write", 0, ["write", "arrive 0"], (0, False, most, 0, 0, 0, 0, [(most, 0)]), NOTHING),
            ("write", 0, ["arrive 0"], (most - 1, False, most, 0, 0, 0, 0, [(most, 0)]), NOTHING),
            ("arrive 0", 0, ["timer"], (most - 1, False, most, 0, 0, 0, 0, []), (0, False, 0, 0, most, 1, 1, [])),
            ("timer", 1, ["arrive 1"], (most - 1, False, most, 0, 0, 0, 0, []),
             (0, False, 0, 0, most, 0, 1, [(0, most)])),
            ("arrive 1", 1, ["arrive 0"], (0, False, 2 * most - 1, most, 0, 0, 0, [(most - 1, 0)]),
             (0, False, 0, 0, most, 0, 1, [])),
            ("arrive 0", 1, [], (0, False, 2 * most - 1, most, 0, 0, 0, []),
             (0, False, 0, 0, 2 * most - 1, 0, 2, [])),
        ])

    def test_the_empty_conversation(self):
        road = Road(Setting(4), [])
        self.assertEqual(picture(road), ([], True, 0, 0, [], NOTHING, NOTHING))
        for event in EVENTS + strange_values():
            self.assert_refused(road, event)
        self.assertEqual(road.clearing(), 0)
        with self.assertRaises(NothingDone):
            road.undo()
        self.assertEqual(picture(road), ([], True, 0, 0, [], NOTHING, NOTHING))


class WriteTest(PlayedTest):
    def test_full_segments(self):
        for mode in ("plain", "push", "more"):
            self.assertEqual(self.segments_of(Setting(4), (0, 4, mode)), ([4], 0, False))
            self.assertEqual(self.segments_of(Setting(4), (0, 12, mode)), ([4, 4, 4], 0, False))
            self.assertEqual(self.segments_of(Setting(1), (0, 3, mode)), ([1, 1, 1], 0, False))

    def test_push(self):
        for hold in Policy.HOLDS:
            setting = Setting(4, Policy(hold))
            self.assertEqual(self.segments_of(setting, (0, 3, "push")), ([3], 0, False))
            self.assertEqual(self.segments_of(setting, (0, 9, "push"), (0, 2, "push")), ([4, 4, 1, 2], 0, False))
            self.assertEqual(self.segments_of(setting, (0, 3, "more"), (0, 2, "push")), ([4, 1], 0, False))

    def test_push_sends_what_was_held(self):
        writes = [(0, 2, "plain"), (0, 1, "plain"), (0, 1, "push")]
        self.assertEqual(self.segments_of(Setting(4), *writes), ([2, 2], 0, False))

    def test_more(self):
        for hold in Policy.HOLDS:
            setting = Setting(4, Policy(hold))
            self.assertEqual(self.segments_of(setting, (0, 3, "more")), ([], 3, True))
            self.assertEqual(self.segments_of(setting, (0, 3, "more"), (0, 3, "more")), ([4], 2, True))
            self.assertEqual(self.segments_of(setting, (0, 3, "more"), (0, 1, "more")), ([4], 0, False))

    def test_plain_by_policy(self):
        cases = [
            ([(0, 3, "plain")], ([3], 0, False), ([3], 0, False), ([3], 0, False)),
            ([(0, 5, "plain")], ([4, 1], 0, False), ([4, 1], 0, False), ([4], 1, False)),
            ([(0, 4, "plain"), (0, 1, "plain")], ([4, 1], 0, False), ([4, 1], 0, False), ([4], 1, False)),
            ([(0, 1, "plain"), (0, 1, "plain")], ([1, 1], 0, False), ([1], 1, False), ([1], 1, False)),
            ([(0, 1, "push"), (0, 6, "plain")], ([1, 4, 2], 0, False), ([1, 4], 2, False), ([1, 4], 2, False)),
            ([(0, 3, "more"), (0, 2, "plain")], ([4, 1], 0, False), ([4, 1], 0, False), ([4], 1, False)),
            ([(0, 2, "more"), (0, 1, "plain")], ([3], 0, False), ([3], 0, False), ([3], 0, False)),
            ([(0, 1, "plain"), (0, 2, "plain"), (0, 2, "plain")],
             ([1, 2, 2], 0, False), ([1, 4], 0, False), ([1, 4], 0, False)),
            ([(0, 1, "plain"), (0, 1, "more"), (0, 1, "plain")],
             ([1, 2], 0, False), ([1], 2, False), ([1], 2, False)),
        ]
        for writes, *answers in cases:
            for hold, answer in zip(("off", "partial", "all"), answers):
                with self.subTest(writes=writes, hold=hold):
                    self.assertEqual(self.segments_of(Setting(4, Policy(hold)), *writes), answer)

    def test_each_endpoint_has_its_own_policy(self):
        setting = Setting(4, Policy("off"), Policy("all"))
        self.assertEqual(self.segments_of(setting, (0, 5, "plain")), ([4, 1], 0, False))
        road = Road(setting, [(1, 5, "plain")])
        road.do("write")
        self.assertEqual((road.way_from(1), road.rest_of(1)), ([(4, 0)], 1))


class AcknowledgmentTest(unittest.TestCase):
    def heard(self, policy, lengths):
        """What endpoint 1 does as segments of these lengths arrive: pending and acknowledged after each."""
        road = Road(Setting(4, Policy("off"), policy), [(0, length, "push") for length in lengths])
        for _ in lengths:
            road.do("write")
        told = []
        for _ in lengths:
            road.do("arrive 0")
            told.append((road.pending_at(1), [covered for length, covered in road.way_from(1)]))
        self.assertTrue(all(length == 0 for length, covered in road.way_from(1)))
        return told

    def test_every(self):
        full = [4] * 7
        self.assertEqual(self.heard(Policy(every=0), full), [(k, []) for k in range(1, 8)])
        self.assertEqual(self.heard(Policy(every=1), full[:3]), [(0, [4]), (0, [4, 8]), (0, [4, 8, 12])])
        self.assertEqual(self.heard(Policy(every=2), full[:5]),
                         [(1, []), (0, [8]), (1, [8]), (0, [8, 16]), (1, [8, 16])])
        self.assertEqual(self.heard(Policy(every=3), full),
                         [(1, []), (2, []), (0, [12]), (1, [12]), (2, [12]), (0, [12, 24]), (1, [12, 24])])
        self.assertEqual(self.heard(Policy(every=9), [4] * 10)[8:], [(0, [36]), (1, [36])])

    def test_partial_segments_are_never_pending(self):
        self.assertEqual(self.heard(Policy(every=1), [3, 1, 4, 2]), [(0, []), (0, []), (0, [8]), (0, [8])])
        self.assertEqual(self.heard(Policy(every=2), [4, 1, 4, 1]), [(1, []), (1, []), (0, [9]), (0, [9])])

    def test_quick(self):
        self.assertEqual(self.heard(Policy(every=0, quick=1), [1, 1]), [(0, [1]), (0, [1])])
        self.assertEqual(self.heard(Policy(every=0, quick=2), [1, 4, 4]), [(0, [1]), (0, [1, 5]), (1, [1, 5])])
        self.assertEqual(self.heard(Policy(every=0, quick=4), [1] * 6),
                         [(0, [1]), (0, [1, 2]), (0, [1, 2, 3])] + [(0, [1, 2, 3, 4])] * 3)

    def test_quick_and_every(self):
        self.assertEqual(self.heard(Policy(every=2, quick=2), [4] * 5),
                         [(0, [4]), (0, [4, 8]), (1, [4, 8]), (0, [4, 8, 16]), (1, [4, 8, 16])])
        # Both cases at once are one acknowledgment.
        self.assertEqual(self.heard(Policy(every=1, quick=4), [4, 4]), [(0, [4]), (0, [4, 8])])


class BoundTest(unittest.TestCase):
    def assert_too_long(self, many, setting, conversation):
        with self.assertRaises(TooLong) as caught:
            Road(setting, conversation)
        self.assertEqual(caught.exception.many, many)

    def test_sums_of_300_and_301(self):
        Road(Setting(1), [(0, 299, "push")])
        self.assert_too_long(301, Setting(1), [(0, 300, "push")])
        Road(Setting(1), [(0, 1, "plain")] * 150)
        self.assert_too_long(301, Setting(1), [(0, 1, "plain")] * 149 + [(1, 2, "more")])
        Road(Setting(4), [(0, 7, "plain"), (1, 4, "plain")] * 75)
        self.assert_too_long(301, Setting(4), [(0, 7, "plain"), (1, 4, "plain")] * 75 + [(0, 3, "plain")])
        Road(Setting(4), [(0, 3, "plain")] * 200)
        self.assert_too_long(10 ** 18 + 1, Setting(1), [(0, 10 ** 18, "plain")])
        Road(Setting(10 ** 18), [(0, 10 ** 18, "plain")] * 150)

    def test_a_bad_conversation_is_told_ahead(self):
        with self.assertRaises(BadWrite) as caught:
            Road(Setting(1), [(0, 1000, "plain"), (0, 0, "plain")])
        self.assertEqual(caught.exception.index, 1)


class ValuesTest(PlayedTest):
    CONVERSATION = [(0, 5, "plain"), (0, 1, "plain"), (1, 2, "plain")]

    def test_strange_events(self):
        road = Road(Setting(4), self.CONVERSATION)
        for _ in range(3):
            for event in strange_values() + [["write"], ("write",), "writes", "arrive  0", 'arrive "0"', b"write"]:
                self.assert_refused(road, event)
            road.do(road.possible()[0])

    def test_arguments_stay_and_are_copied(self):
        conversation = list(self.CONVERSATION)
        road = Road(Setting(4), conversation)
        conversation.append(None)
        conversation[0] = (1, 1, "push")
        road.do("write")
        self.assertEqual(side_of(road, 0), (1, False, 4, 0, 0, 0, 0, [(4, 0)]))
        self.assertEqual(conversation[1:], self.CONVERSATION[1:] + [None])
        self.assertEqual(road.play("slow").log().count("write"), 3)

    def test_what_is_returned_may_be_changed(self):
        road = Road(Setting(4), self.CONVERSATION)
        road.do("write")
        before = picture(road)
        for answer in (road.possible(), road.log(), road.way_from(0), road.way_from(1)):
            answer.append("timer")
            answer.reverse()
        self.assertEqual(picture(road), before)
        road.way_from(0).clear()
        road.do("arrive 0")
        self.assertEqual(road.received_by(1), 4)

    def test_arguments_by_name(self):
        road = Road(setting=Setting(4), conversation=self.CONVERSATION)
        road.do(event="write")
        self.assertEqual(road.rest_of(endpoint=0), 1)
        self.assertFalse(road.keeps(endpoint=0))
        self.assertEqual(road.sent_by(endpoint=0), 4)
        self.assertEqual(road.acknowledged_to(endpoint=0), 0)
        self.assertEqual(road.received_by(endpoint=0), 0)
        self.assertEqual(road.pending_at(endpoint=0), 0)
        self.assertEqual(road.segments_at(endpoint=0), 0)
        self.assertEqual(road.way_from(endpoint=0), [(4, 0)])
        self.assertEqual(road.play(order="slow").log(), road.play("slow").log())
        self.assertEqual(road.tried(function=len), 1)

    def test_kinds_of_values(self):
        road = Road(Setting(4), self.CONVERSATION)
        road.do("write")
        for endpoint in (0, 1):
            self.assertIs(type(road.keeps(endpoint)), bool)
            for thing in road.way_from(endpoint):
                self.assertIs(type(thing), tuple)
        self.assertIs(type(road.is_over), bool)
        self.assertIs(type(road.stall_count), int)
        self.assertEqual(len(road), 1)

    def test_stall_count_and_is_over_are_properties(self):
        self.assertIsInstance(vars(Road)["stall_count"], property)
        self.assertIsInstance(vars(Road)["is_over"], property)


if __name__ == "__main__":
    unittest.main()
