"""Points 8 and 11: clearings, and conversations that are played by an order."""

import unittest

from latewords.errors import BadOrder
from latewords.roads import Road, Trial
from latewords.settings import Policy, Setting
from tests.values import picture

HELD = [(0, 2, "plain"), (0, 1, "plain"), (1, 5, "plain")]


class ClearingTest(unittest.TestCase):
    def road(self, setting, conversation, *events):
        road = Road(setting, conversation)
        for event in events:
            road.do(event)
        return road

    def assert_clears(self, road, *events):
        """One clearing does exactly these events, and each can be taken back by itself."""
        before, pictures = road.log(), []
        self.assertEqual(road.clearing(), len(events))
        self.assertEqual(road.log(), before + list(events))
        after = picture(road)
        for event in reversed(events):
            self.assertEqual(road.undo(), event)
            pictures.append(picture(road))
        for event, seen in zip(events, reversed(pictures)):
            self.assertEqual(picture(road), seen)
            road.do(event)
        self.assertEqual(picture(road), after)

    def test_ahead_of_the_first_write(self):
        road = self.road(Setting(2), [(1, 5, "plain")])
        before = picture(road)
        self.assertEqual(road.clearing(), 0)
        self.assertEqual(picture(road), before)

    def test_in_the_middle_of_a_turn(self):
        road = self.road(Setting(2), [(0, 5, "plain"), (0, 2, "plain")], "write")
        self.assert_clears(road, "arrive 0", "arrive 0", "arrive 1")
        self.assertEqual((road.way_from(0), road.received_by(1)), ([(1, 0)], 4))
        self.assert_clears(road, "arrive 0")
        self.assert_clears(road)
        self.assertEqual(road.possible(), ["write"])

    def test_when_some_things_have_arrived_already(self):
        road = self.road(Setting(2), [(0, 5, "plain"), (0, 2, "plain")], "write", "arrive 0")
        self.assert_clears(road, "arrive 0", "arrive 1")
        road = self.road(Setting(2, Policy(every=1)), [(0, 5, "plain"), (0, 2, "plain")], "write", "arrive 0")
        self.assert_clears(road, "arrive 0", "arrive 1", "arrive 1")
        self.assertEqual(road.way_from(0), [(1, 0)])

    def test_the_speaker_is_that_of_the_last_write_made(self):
        conversation = [(0, 2, "plain"), (1, 2, "plain")]
        road = self.road(Setting(2, Policy(every=1)), conversation, "write", "arrive 0")
        self.assert_clears(road, "arrive 1")
        road = self.road(Setting(2, Policy(every=1)), conversation, "write", "arrive 0", "write")
        self.assertEqual(road.way_from(1), [(0, 2), (2, 2)])
        self.assert_clears(road, "arrive 1", "arrive 1")
        self.assertTrue(road.is_over)

    def test_the_listener_comes_second(self):
        # Both sides have something on the way; the speaker's comes first whichever endpoint it is.
        for speaker in (0, 1):
            conversation = [(speaker, 2, "plain"), (speaker, 2, "plain"), (speaker, 2, "plain")]
            road = self.road(Setting(2, Policy(every=1)), conversation, "write", f"arrive {speaker}", "write")
            self.assertEqual(road.possible(), ["write", "arrive 0", "arrive 1"])
            self.assert_clears(road, f"arrive {speaker}", f"arrive {1 - speaker}", f"arrive {1 - speaker}")

    def test_where_the_conversation_finishes(self):
        road = self.road(Setting(2, Policy(every=1)), [(0, 4, "plain")], "write")
        self.assert_clears(road, "arrive 0", "arrive 0")
        self.assertTrue(road.is_over)
        self.assertEqual(road.way_from(1), [(0, 2), (0, 4)])
        self.assert_clears(road)
        self.assertEqual(road.way_from(1), [(0, 2), (0, 4)])

    def test_after_the_timer(self):
        road = self.road(Setting(4), HELD, "write", "write", "arrive 0", "timer")
        self.assert_clears(road, "arrive 1")
        self.assert_clears(road, "arrive 0")
        self.assertEqual(road.possible(), ["write"])


class PlayTest(unittest.TestCase):
    def assert_plays(self, setting, conversation, order, stalls, log):
        road = Road(setting, conversation)
        before = picture(road)
        played = road.play(order)
        self.assertIsInstance(played, Road)
        self.assertIsNot(played, road)
        self.assertEqual(played.log(), log.split(", ") if log else [])
        self.assertEqual((played.stall_count, played.is_over, len(played)), (stalls, True, len(played.log())))
        self.assertEqual(picture(road), before)
        self.assert_plays_alike_further_on(setting, conversation, order, played)
        return played

    def assert_plays_alike_further_on(self, setting, conversation, order, played):
        road = Road(setting, conversation)
        while road.possible():
            road.do(road.possible()[-1])
            before = picture(road)
            self.assertEqual(picture(road.play(order)), picture(played))
            self.assertEqual(picture(road), before)

    def test_held_rests(self):
        rest = "arrive 1, arrive 0, write, arrive 1, timer, arrive 0, arrive 1"
        for order in ("slow", [0, 0, 0]):
            self.assert_plays(Setting(4), HELD, order, 2, "write, write, arrive 0, timer, " + rest)
        for order in ("quick", [0, 2, 0], [0, 1, 0]):
            self.assert_plays(Setting(4), HELD, order, 2, "write, arrive 0, write, timer, " + rest)

    def test_quick_is_the_default(self):
        road = Road(Setting(4), HELD)
        self.assertEqual(road.play().log(), road.play("quick").log())
        self.assertNotEqual(road.play().log(), road.play("slow").log())

    def test_a_first_segment_that_is_acknowledged_at_once(self):
        setting, conversation = Setting(4, Policy(), Policy(quick=1)), [(0, 2, "plain"), (0, 1, "plain")]
        self.assert_plays(setting, conversation, "slow", 0, "write, write, arrive 0, arrive 1, arrive 0")
        self.assert_plays(setting, conversation, [0, 1], 0, "write, arrive 0, arrive 1, write, arrive 0")
        self.assert_plays(setting, conversation, "quick", 0, "write, arrive 0, arrive 1, write, arrive 0")

    def test_none_one_and_two_clearings(self):
        setting, conversation = Setting(2, Policy(every=1)), [(0, 3, "plain"), (0, 1, "plain")]
        played = self.assert_plays(setting, conversation, [0, 0], 0, "write, write, arrive 0, arrive 0")
        self.assertEqual(played.way_from(1), [(0, 2), (0, 4)])
        end = "timer, arrive 1, arrive 0"
        self.assert_plays(setting, conversation, [0, 1], 1, "write, arrive 0, arrive 1, write, arrive 0, " + end)
        self.assert_plays(setting, conversation, [0, 2], 1, "write, arrive 0, arrive 1, arrive 0, write, " + end)

    def test_the_second_clearing_brings_the_rest_that_the_first_one_sent(self):
        setting, conversation = Setting(2, Policy(), Policy(quick=2)), [(0, 3, "plain"), (0, 1, "plain")]
        self.assert_plays(setting, conversation, [0, 1], 0,
                          "write, arrive 0, arrive 1, write, arrive 0, arrive 1, arrive 0")
        self.assert_plays(setting, conversation, [0, 2], 0,
                          "write, arrive 0, arrive 1, arrive 0, arrive 1, write, arrive 0")

    def test_kept_rests(self):
        conversation = [(0, 3, "more"), (1, 1, "more"), (0, 2, "plain")]
        log = "write, timer, arrive 0, write, timer, arrive 1, write, arrive 0"
        for order in ("slow", "quick", [0, 0, 0]):
            self.assert_plays(Setting(4), conversation, order, 2, log)

    def test_a_turn_ends_when_nothing_is_on_the_way(self):
        conversation = [(0, 2, "plain"), (1, 2, "plain"), (1, 1, "plain")]
        self.assert_plays(Setting(2, Policy(every=1)), conversation, "slow", 0,
                          "write, arrive 0, arrive 1, write, write, arrive 1, arrive 0, arrive 1")

    def test_the_empty_conversation(self):
        for order in ("slow", "quick", []):
            self.assert_plays(Setting(4), [], order, 0, "")

    def test_an_order_that_is_none_changes_nothing(self):
        road = Road(Setting(4), HELD)
        road.do("write")
        before = picture(road)
        for order, index in (("no", None), ([0], None), ([0, 3, 0], 1), ([1, 3, 0], 0)):
            with self.assertRaises(BadOrder) as caught:
                road.play(order)
            self.assertEqual(caught.exception.index, index)
        self.assertEqual(picture(road), before)

    def test_an_order_stays_as_it_is(self):
        order = [0, 2, 0]
        Road(Setting(4), HELD).play(order)
        self.assertEqual(order, [0, 2, 0])

    def test_playing_within_a_trial_and_undoing_what_was_played(self):
        with Trial(Road(Setting(4), HELD)) as road:
            road.do("write")
            played = road.play()
            log = played.log()
            self.assertEqual(road.log(), ["write"])
        while log:
            self.assertEqual(played.undo(), log.pop())
        self.assertEqual(played.log(), [])


if __name__ == "__main__":
    unittest.main()
