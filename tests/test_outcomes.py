"""Point 14: outcomes, the fewest and the most stalls over all orders, and verdicts."""

import random
import unittest

from latewords.conversations import normal_order, turns
from latewords.errors import BadOrder, BadWrite
from latewords.outcomes import Outcome, least, most, outcome, verdicts
from latewords.roads import Road
from latewords.settings import Policy, Setting
from tests.cases import orders_of, some_case, some_policy
from tests.replay import Replay, played
from tests.values import strange_values

SEED = 20261122
LARGE = 10 ** 18
HELD = [(0, 2, "plain"), (0, 1, "plain"), (1, 5, "plain")]
EITHER = (Setting(2, Policy(every=1)), [(0, 3, "plain"), (0, 1, "plain")])
# The first turn sends two segments or three, by its order; the third one stalls if none is left of the first three.
COUPLED = (Setting(4, Policy(every=0, quick=3)), [(0, 1, "plain")] * 3 + [(1, 1, "push")] + [(0, 1, "plain")] * 2)


def outcome_seen(setting, conversation, order):
    """The outcome of a conversation, counted on a road of single bytes."""
    log = played(setting, conversation, normal_order(conversation, order))
    replay = Replay(setting, conversation, log)
    things = replay.sent[0] + replay.sent[1]
    turn_of = [number for number, (_, start, stop) in enumerate(turns(conversation)) for _ in range(start, stop)]
    stalled = [turn_of[log[:at].count("write") - 1] for at, event in enumerate(log) if event == "timer"]
    return Outcome(replay.stalls, len([thing for thing in things if thing.data]),
                   len([thing for thing in things if not thing.data]), stalled)


def verdicts_seen(outcomes, count):
    found = []
    for turn in range(count):
        seen = {turn in each.stalled for each in outcomes}
        found.append("either" if len(seen) == 2 else "always" if True in seen else "never")
    return found


class OutcomeClassTest(unittest.TestCase):
    def test_defaults(self):
        self.assertEqual(vars(Outcome()), {"stalls": 0, "segments": 0, "acknowledgments": 0, "stalled": []})

    def test_attributes(self):
        made = Outcome(1, 3, 2, [0])
        self.assertEqual((made.stalls, made.segments, made.acknowledgments, made.stalled), (1, 3, 2, [0]))
        self.assertEqual(Outcome(stalled=[0], acknowledgments=2, segments=3, stalls=1), made)

    def test_stalled_is_a_list_of_its_own(self):
        given = [0, 2]
        made = Outcome(2, 3, 0, given)
        given.append(5)
        self.assertEqual(made.stalled, [0, 2])
        made.stalled.append(7)
        self.assertEqual(given, [0, 2, 5])
        made = Outcome(2, 3, 0, (0, 2))
        self.assertIsInstance(made.stalled, list)
        self.assertEqual(made, Outcome(2, 3, 0, [0, 2]))
        Outcome().stalled.append(1)
        self.assertEqual(Outcome().stalled, [])

    def test_equality(self):
        some = (1, 3, 2, [0])
        self.assertTrue(Outcome(*some) == Outcome(*some))
        self.assertFalse(Outcome(*some) != Outcome(*some))
        for place, value in enumerate((2, 2, 3, [1])):
            other = some[:place] + (value,) + some[place + 1:]
            self.assertFalse(Outcome(*some) == Outcome(*other))
            self.assertTrue(Outcome(*some) != Outcome(*other))
        for value in strange_values() + [some, list(some), repr(Outcome(*some))]:
            self.assertFalse(Outcome(*some) == value)
            self.assertFalse(value == Outcome(*some))
            self.assertFalse(Outcome() == value)

    def test_truth(self):
        self.assertIs(bool(Outcome()), False)
        self.assertIs(bool(Outcome(0, 5, 3)), False)
        self.assertIs(bool(Outcome(1, 0, 0, [0])), True)
        self.assertIs(bool(Outcome(200, 1, 1, list(range(200)))), True)

    def test_repr(self):
        self.assertEqual(repr(Outcome(1, 3, 2, [0])), "Outcome(1, 3, 2, [0])")
        self.assertEqual(repr(Outcome(2, 3, 2, (0, 4))), "Outcome(2, 3, 2, [0, 4])")
        self.assertEqual(repr(Outcome()), "Outcome(0, 0, 0, [])")


class HandTest(unittest.TestCase):
    def test_the_empty_conversation(self):
        setting = Setting(4)
        for order in ("quick", "slow", []):
            self.assertEqual(outcome(setting, [], order), Outcome())
        self.assertEqual((least(setting, []), most(setting, []), verdicts(setting, [])), ((0, []), (0, []), []))

    def test_held_rests(self):
        # 2 bytes go out, 1 is held until the timer acknowledges; then 4 go out and 1 is held until the timer.
        setting = Setting(4)
        for order in ("quick", "slow", [0, 1, 0], [0, 2, 0]):
            self.assertEqual(outcome(setting, HELD, order), Outcome(2, 4, 2, [0, 1]))
        self.assertEqual(outcome(setting, HELD), outcome(setting, HELD, "quick"))
        self.assertEqual(verdicts(setting, HELD), ["always", "always"])

    def test_kept_rests(self):
        # The timer sends a kept rest itself, so nothing is acknowledged.
        self.assertEqual(outcome(Setting(4), [(0, 2, "more")]), Outcome(1, 1, 0, [0]))
        self.assertEqual(outcome(Setting(4, Policy(quick=1)), [(0, 2, "more")]), Outcome(1, 1, 1, [0]))
        self.assertEqual(outcome(Setting(4), [(0, 8, "more")]), Outcome(0, 2, 1, []))
        self.assertEqual(outcome(Setting(4), [(0, 2, "more"), (0, 2, "more")]), Outcome(0, 1, 0, []))

    def test_the_acknowledgment_of_the_last_byte_counts(self):
        self.assertEqual(outcome(Setting(4, Policy(every=1)), [(0, 4, "plain")]), Outcome(0, 1, 1, []))
        self.assertEqual(outcome(Setting(4, Policy(every=0, quick=1)), [(0, 1, "plain")]), Outcome(0, 1, 1, []))

    def test_an_order_decides(self):
        setting, conversation = EITHER
        self.assertEqual(outcome(setting, conversation, "slow"), Outcome(0, 2, 2, []))
        self.assertEqual(outcome(setting, conversation, [0, 1]), Outcome(1, 3, 2, [0]))
        self.assertEqual(outcome(setting, conversation, [0, 2]), Outcome(1, 3, 2, [0]))
        self.assertEqual(least(setting, conversation), (0, [0, 0]))
        stalls, order = most(setting, conversation)
        self.assertEqual((stalls, order in ([0, 1], [0, 2])), (1, True))
        self.assertEqual(verdicts(setting, conversation), ["either"])

    def test_the_first_segments_decide_about_a_later_turn(self):
        setting, conversation = COUPLED
        self.assertEqual(outcome(setting, conversation, "slow"), Outcome(0, 5, 4, []))
        self.assertEqual(outcome(setting, conversation, "quick"), Outcome(1, 6, 5, [2]))
        self.assertEqual(outcome(setting, conversation, [0, 0, 0, 0, 0, 2]), Outcome(0, 5, 4, []))
        self.assertEqual(verdicts(setting, conversation), ["never", "never", "either"])
        for function, stalls in ((least, 0), (most, 1)):
            self.assertEqual(function(setting, conversation)[0], stalls)
            order = function(setting, conversation)[1]
            self.assertEqual(outcome(setting, conversation, order).stalls, stalls)

    def test_both_endpoints_count_their_own_first_segments(self):
        setting, conversation = COUPLED
        # Endpoint 0 listens with none left from the beginning, endpoint 1 as before.
        uneven = setting.changed(endpoint=0, quick=0)
        self.assertEqual(verdicts(uneven, conversation), ["never", "never", "either"])
        turned = [(1 - endpoint, length, mode) for endpoint, length, mode in conversation]
        self.assertEqual(verdicts(uneven, turned), ["always", "never", "always"])

    def test_a_stall_for_a_stall(self):
        # Either of these turns can do without a stall, but just one of both stalls, whatever the order.
        setting = Setting(2, Policy(every=0), Policy(every=2, quick=3))
        conversation = [(0, 3, "plain"), (0, 1, "more"), (1, 2, "plain"), (0, 3, "more"), (0, 2, "plain")]
        self.assertEqual(verdicts(setting, conversation), ["either", "never", "either"])
        self.assertEqual(outcome(setting, conversation, "slow"), Outcome(1, 6, 4, [2]))
        self.assertEqual(outcome(setting, conversation, "quick"), Outcome(1, 7, 4, [0]))
        self.assertEqual((least(setting, conversation)[0], most(setting, conversation)[0]), (1, 1))


class ReplayTest(unittest.TestCase):
    def test_outcomes_of_played_orders(self):
        chance = random.Random(SEED)
        for _ in range(700):
            setting, conversation = some_case(chance)
            counts = [chance.randint(0, highest) for highest in normal_order(conversation, "quick")]
            for order in (counts, "slow", "quick"):
                seen = outcome_seen(setting, conversation, order)
                self.assertEqual(outcome(setting, conversation, order), seen, (setting, conversation, order))
                road = Road(setting, conversation).play(order)
                self.assertEqual((road.stall_count, road.segments_at(0) + road.segments_at(1)),
                                 (seen.stalls, seen.segments))

    def test_all_orders_one_by_one(self):
        chance = random.Random(SEED + 1)
        words = set()
        for _ in range(500):
            setting, conversation = some_case(chance, 5)
            orders = [list(order) for order in orders_of(conversation)]
            outcomes = [outcome_seen(setting, conversation, order) for order in orders]
            for function, stalls in ((least, min(each.stalls for each in outcomes)),
                                     (most, max(each.stalls for each in outcomes))):
                found = function(setting, conversation)
                self.assertIsInstance(found, tuple)
                self.assertEqual(found[0], stalls, (setting, conversation))
                self.assertIn(found[1], orders)
                self.assertEqual(outcomes[orders.index(found[1])].stalls, stalls)
            found = verdicts(setting, conversation)
            self.assertEqual(found, verdicts_seen(outcomes, len(turns(conversation))), (setting, conversation))
            words.update(found)
        self.assertEqual(words, {"never", "always", "either"})

    def test_coupled_turns(self):
        # Small lengths, a policy that acknowledges first segments only, and three turns, so that turns meddle.
        chance = random.Random(SEED + 2)
        coupled = 0
        for _ in range(250):
            setting = Setting(chance.randint(2, 4), *[
                Policy(chance.choice(["partial", "all"]), every=chance.choice([0, 2]), quick=chance.randint(1, 4))
                for _ in (0, 1)])
            conversation = [(speaker, chance.randint(1, 3), chance.choice(["plain", "plain", "plain", "more"]))
                            for speaker in (0, 0, 0, 1, 0, 0)]
            outcomes = [outcome_seen(setting, conversation, list(order)) for order in orders_of(conversation)]
            self.assertEqual(least(setting, conversation)[0], min(each.stalls for each in outcomes))
            self.assertEqual(most(setting, conversation)[0], max(each.stalls for each in outcomes))
            found = verdicts(setting, conversation)
            self.assertEqual(found, verdicts_seen(outcomes, 3))
            last = [each.stalls for each in outcomes[::9]]
            coupled += len(set(last)) > 1
        self.assertGreater(coupled, 10)

    def test_random_orders_of_longer_conversations(self):
        chance = random.Random(SEED + 3)
        for _ in range(40):
            setting = Setting(chance.randint(2, 6), some_policy(chance), some_policy(chance))
            conversation = [(chance.choice([0, 0, 0, 1]), chance.randint(1, 9), chance.choice(["plain", "plain", "more"]))
                            for _ in range(30)]
            fewest, greatest = least(setting, conversation), most(setting, conversation)
            words = verdicts(setting, conversation)
            self.assertEqual(outcome_seen(setting, conversation, fewest[1]).stalls, fewest[0])
            self.assertEqual(outcome_seen(setting, conversation, greatest[1]).stalls, greatest[0])
            for _ in range(5):
                order = [chance.randint(0, highest) for highest in normal_order(conversation, "quick")]
                seen = outcome_seen(setting, conversation, order)
                self.assertTrue(fewest[0] <= seen.stalls <= greatest[0])
                for turn, word in enumerate(words):
                    self.assertIn(word, ("either", "always" if turn in seen.stalled else "never"))


class LargeTest(unittest.TestCase):
    def test_200_writes_of_one_turn(self):
        # With quick acknowledgments there are far more than ten thousand states, and 3 ** 199 orders.
        for size, length in ((LARGE, LARGE // 200), (1001, 5), (7, 5)):
            setting = Setting(size, Policy(every=3, quick=4))
            conversation = [(0, length, "plain")] * 200
            for function in (least, most):
                stalls, order = function(setting, conversation)
                self.assertEqual(len(order), 200)
                self.assertEqual(outcome(setting, conversation, order).stalls, stalls)
            self.assertEqual(verdicts(setting, conversation), [
                {(0, 0): "never", (0, 1): "either", (1, 1): "always"}[
                    least(setting, conversation)[0], most(setting, conversation)[0]]])

    def test_200_turns(self):
        setting = Setting(LARGE, Policy(every=0, quick=0), Policy(every=0, quick=4))
        conversation = [(at % 2, LARGE // 3, "more") for at in range(200)]
        self.assertEqual(outcome(setting, conversation), Outcome(200, 200, 4, list(range(200))))
        self.assertEqual((least(setting, conversation)[0], most(setting, conversation)[0]), (200, 200))
        self.assertEqual(verdicts(setting, conversation), ["always"] * 200)
        conversation = [(at % 2, LARGE, "plain") for at in range(200)]
        self.assertEqual(outcome(setting, conversation, "slow"), Outcome(0, 200, 4, []))

    def test_the_largest_lengths_with_size_1(self):
        conversation = [(0, LARGE, "plain")] * 200
        self.assertEqual(outcome(Setting(1), conversation), Outcome(0, 200 * LARGE, 100 * LARGE, []))
        setting = Setting(1, Policy(every=9, quick=4))
        late, early = 200 * LARGE - 4, 4
        self.assertEqual(outcome(setting, conversation, "slow"), Outcome(0, 200 * LARGE, early + late // 9, []))
        self.assertEqual(verdicts(setting, conversation), ["never"])
        self.assertEqual(least(Setting(1), conversation)[0], 0)

    def test_lengths_grow_with_the_size(self):
        chance = random.Random(SEED + 4)
        for _ in range(200):
            small, conversation = some_case(chance)
            factor = LARGE // max(small.size, 11)
            large = small.changed(size=small.size * factor)
            grown = [(endpoint, length * factor, mode) for endpoint, length, mode in conversation]
            for order in ("slow", "quick", [chance.randint(0, top) for top in normal_order(conversation, "quick")]):
                self.assertEqual(outcome(large, grown, order), outcome(small, conversation, order))
            self.assertEqual(verdicts(large, grown), verdicts(small, conversation))
            self.assertEqual(least(large, grown)[0], least(small, conversation)[0])
            self.assertEqual(most(large, grown)[0], most(small, conversation)[0])


class ValuesTest(unittest.TestCase):
    def test_wrong_conversations(self):
        for value in strange_values():
            if value == [] or value == [(0, 1, "plain")]:
                continue
            for function in (outcome, least, most, verdicts):
                with self.subTest(function=function.__name__, value=value):
                    with self.assertRaises(BadWrite) as caught:
                        function(Setting(4), value)
                    index = 0 if isinstance(value, list) and len(value) <= 200 else None
                    self.assertEqual(caught.exception.index, index)

    def test_a_wrong_conversation_comes_ahead_of_a_wrong_order(self):
        for order in ([0, 0, 3], None, "fast", True):
            with self.assertRaises(BadWrite) as caught:
                outcome(Setting(4), HELD[:2] + [(2, 5, "plain")], order)
            self.assertEqual(caught.exception.index, 2)

    def test_wrong_orders(self):
        for order in strange_values() + [[0, 0], [0, 0, 0, 0], (0, 1, 0), "Quick", None]:
            with self.subTest(order=order), self.assertRaises(BadOrder) as caught:
                outcome(Setting(4), HELD, order)
            self.assertIsNone(caught.exception.index)
        for order, index in (([1, 0, 0], 0), ([0, 3, 0], 1), ([0, -1, 1], 1), ([0, 2, 1], 2), ([0, True, 0], 1),
                             ([0, None, 0], 1), ([0, "1", 5], 1), ([False, 0, 0], 0)):
            with self.subTest(order=order), self.assertRaises(BadOrder) as caught:
                outcome(Setting(4), HELD, order)
            self.assertEqual(caught.exception.index, index)

    def test_arguments_by_their_names(self):
        setting, conversation = EITHER
        self.assertEqual(outcome(order="slow", conversation=conversation, setting=setting),
                         outcome(setting, conversation, "slow"))
        for function in (least, most, verdicts):
            self.assertEqual(function(conversation=conversation, setting=setting), function(setting, conversation))

    def test_arguments_stay_and_lists_are_new(self):
        setting, conversation = COUPLED
        given, order = list(conversation), [0, 0, 0, 0, 0, 1]
        first = outcome(setting, given, order)
        first.stalled.append(9)
        self.assertEqual(outcome(setting, given, order).stalled, [])
        for function in (least, most):
            kept = repr(function(setting, given))
            function(setting, given)[1].clear()
            self.assertEqual(repr(function(setting, given)), kept)
        verdicts(setting, given).clear()
        self.assertEqual(len(verdicts(setting, given)), 3)
        self.assertEqual((given, order), (conversation, [0, 0, 0, 0, 0, 1]))


if __name__ == "__main__":
    unittest.main()
