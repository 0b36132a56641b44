"""Points 3 to 8 and 11 over many small conversations: the road against one that keeps each byte by itself."""

import random
import unittest

from latewords.conversations import normal_order, turns
from latewords.roads import Road, Trial
from tests.cases import orders_of, some_case
from tests.replay import Replay, played
from tests.values import picture, side_of

SEED = 20261119
WALKS = 700


class ModelTest(unittest.TestCase):
    def assert_same(self, road, replay):
        self.assertEqual(road.possible(), replay.possible())
        self.assertEqual((road.is_over, road.stall_count), (replay.over(), replay.stalls))
        self.assertEqual([side_of(road, 0), side_of(road, 1)], [replay.side(0), replay.side(1)])

    def test_walks(self):
        chance = random.Random(SEED)
        for _ in range(WALKS):
            setting, conversation = some_case(chance)
            road, replay = Road(setting, conversation), Replay(setting, conversation)
            self.assert_same(road, replay)
            while road.possible():
                event = chance.choice(road.possible())
                road.do(event)
                replay.do(event)
                self.assert_same(road, replay)
                if chance.random() < 0.2:
                    self.assert_same_after_undoing(road, chance.randint(1, len(road)), setting, conversation)
            self.assertEqual(Replay(setting, conversation, road.log()).side(0), side_of(road, 0))

    def assert_same_after_undoing(self, road, count, setting, conversation):
        before = picture(road)
        events = [road.undo() for _ in range(count)]
        self.assert_same(road, Replay(setting, conversation, road.log()))
        for event in reversed(events):
            road.do(event)
        self.assertEqual(picture(road), before)

    def test_plays(self):
        chance = random.Random(SEED + 1)
        for _ in range(WALKS):
            setting, conversation = some_case(chance)
            road = Road(setting, conversation)
            counts = [chance.randint(0, most) for most in normal_order(conversation, "quick")]
            self.assertEqual(road.play(counts).log(), played(setting, conversation, counts))
            for word in ("slow", "quick"):
                log = played(setting, conversation, normal_order(conversation, word))
                self.assertEqual(road.play(word).log(), log)

    def test_clearings_at_any_place(self):
        chance = random.Random(SEED + 2)
        for _ in range(WALKS):
            setting, conversation = some_case(chance)
            road = Road(setting, conversation)
            while road.possible():
                road.do(chance.choice(road.possible()))
                with Trial(road):
                    self.assert_clears(road, setting, conversation)

    def assert_clears(self, road, setting, conversation):
        before = road.log()
        speaker = conversation[before.count("write") - 1][0]
        count = road.clearing()
        done = road.log()[len(before):]
        self.assertEqual((road.log()[:len(before)], len(done)), (before, count))
        replay = Replay(setting, conversation, before)
        for endpoint in (speaker, 1 - speaker):
            for _ in replay.way(endpoint):
                if not replay.over():
                    self.assertEqual(done.pop(0), f"arrive {endpoint}")
                    replay.do(f"arrive {endpoint}")
        self.assertEqual(done, [])
        self.assert_same(road, replay)

    def test_a_turn_has_at_most_one_stall(self):
        chance = random.Random(SEED + 3)
        for _ in range(WALKS):
            setting, conversation = some_case(chance)
            road = Road(setting, conversation)
            while road.possible():
                road.do(chance.choice(road.possible()))
                if road.log()[-1] == "timer":
                    turn_of = [at for at, (_, start, stop) in enumerate(turns(conversation)) for _ in range(start, stop)]
                    log = road.log()
                    stalled = [turn_of[log[:at].count("write") - 1] for at, event in enumerate(log) if event == "timer"]
                    self.assertEqual(len(stalled), len(set(stalled)))

    def test_orders_have_the_fewest_and_the_most_stalls(self):
        chance = random.Random(SEED + 4)
        for _ in range(60):
            setting, conversation = some_case(chance, 4)
            road = Road(setting, conversation)
            by_orders = [road.play(list(order)).stall_count for order in orders_of(conversation)]
            by_events = self.stall_counts(road, setting, conversation, {})
            self.assertEqual((min(by_orders), max(by_orders)), (min(by_events), max(by_events)))

    def stall_counts(self, road, setting, conversation, known):
        """The numbers of stalls that any sequence of events from here on ends with."""
        replay = Replay(setting, conversation, road.log())
        # What a policy permits later hangs on the lengths of the segments that were sent.
        lengths = [[len(segment.data) for segment in replay.sent[endpoint]] for endpoint in (0, 1)]
        at = repr((replay.made, replay.stalls, lengths, side_of(road, 0), side_of(road, 1)))
        if at not in known:
            known[at] = {road.stall_count} if road.is_over else set()
            for event in road.possible():
                with Trial(road):
                    road.do(event)
                    known[at] |= self.stall_counts(road, setting, conversation, known)
        return known[at]


if __name__ == "__main__":
    unittest.main()
