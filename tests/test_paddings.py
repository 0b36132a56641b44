"""Point 16: the least number of bytes that makes a turn stall in no order."""

import random
import unittest

from latewords.conversations import turns
from latewords.errors import BadWrite, NoTurn, TooLong
from latewords.outcomes import outcome, verdicts
from latewords.settings import Policy, Setting
from latewords.sizes import padding
from tests.cases import orders_of, some_case
from tests.values import strange_values

SEED = 20261124
LARGE = 10 ** 18
EITHER = [(0, 3, "plain"), (0, 1, "plain")]


def padded(conversation, index, extra):
    endpoint, length, mode = conversation[index]
    return conversation[:index] + [(endpoint, length + extra, mode)] + conversation[index + 1:]


def padding_seen(setting, conversation, turn):
    """Each number of bytes for each write, one after the other, far beyond where the answers repeat."""
    if verdicts(setting, conversation)[turn] == "never":
        return (0, None)
    speaker, start, stop = turns(conversation)[turn]
    listener = setting.policies[1 - speaker]
    for extra in range(1, setting.size * (listener.quick + 3 * listener.every + 4)):
        for index in range(start, stop):
            if verdicts(setting, padded(conversation, index, extra))[turn] == "never":
                return (extra, index)
    return None


def kind_of(found, size):
    if found is None:
        return "none"
    if found[0] == 0:
        return "never stalls"
    return "below the size" if found[0] < size else "above the size"


class HandTest(unittest.TestCase):
    def assert_padding(self, expected, setting, conversation, turn=0):
        found = padding(setting, conversation, turn)
        self.assertEqual(found, expected)
        if found is not None:
            self.assertIsInstance(found, tuple)

    def test_a_turn_that_never_stalls(self):
        self.assert_padding((0, None), Setting(4), [(0, 5, "push")])
        self.assert_padding((0, None), Setting(2, Policy(every=1)), [(0, 3, "plain")])

    def test_a_kept_rest(self):
        self.assert_padding((3, 0), Setting(4), [(0, 5, "more")])
        self.assert_padding((1, 0), Setting(4), [(0, 7, "more")])
        self.assert_padding((3, 0), Setting(4), [(0, 1, "more")])

    def test_a_held_rest(self):
        # Padding the first write leaves 1 byte behind segments that nothing acknowledges.
        self.assert_padding((3, 1), Setting(4, Policy(every=0)), [(0, 1, "plain"), (0, 1, "plain")])

    def test_the_least_index_of_several(self):
        self.assert_padding((2, 0), Setting(4), [(0, 1, "more"), (0, 1, "more")])
        self.assert_padding((1, 0), Setting(2, Policy(every=1)), EITHER)
        self.assert_padding((2, 1), Setting(4), [(1, 4, "push"), (0, 1, "more"), (0, 1, "more")], 1)

    def test_more_than_a_full_segment(self):
        # The first full segment is acknowledged early; with a second one the rest stays held and grows to a third.
        setting = Setting(3, Policy(every=0), Policy(every=0, quick=1))
        self.assert_padding((4, 0), setting, [(0, 4, "plain"), (0, 1, "plain")])

    def test_no_padding_helps(self):
        # The rest is sent in one order and joins the second write in the other, so one of both keeps a rest.
        self.assert_padding(None, Setting(2, Policy(every=1)), [(0, 3, "plain"), (0, 1, "more")])

    def test_the_default_is_the_first_turn(self):
        conversation = [(0, 5, "more"), (1, 6, "more")]
        self.assertEqual(padding(Setting(4), conversation), (3, 0))
        self.assertEqual(padding(Setting(4), conversation, 0), (3, 0))
        self.assertEqual(padding(Setting(4), conversation, 1), (2, 1))

    def test_an_earlier_turn_decides_how_a_turn_begins(self):
        # By the order of the first turn there is a quick segment left for the third one, or there is none.
        setting = Setting(4, Policy(every=0, quick=3))
        conversation = [(0, 1, "plain")] * 3 + [(1, 1, "push")] + [(0, 1, "plain")] * 2
        self.assertEqual(verdicts(setting, conversation)[2], "either")
        self.assert_padding((3, 5), setting, conversation, 2)
        self.assert_padding((0, None), setting, conversation[3:], 1)


class SearchedTest(unittest.TestCase):
    def test_small_conversations(self):
        chance = random.Random(SEED)
        kinds = []
        for _ in range(3000):
            setting, conversation = some_case(chance, 5)
            for turn in range(len(turns(conversation))):
                expected = padding_seen(setting, conversation, turn)
                self.assertEqual(padding(setting, conversation, turn), expected, (setting, conversation, turn))
                kinds.append(kind_of(expected, setting.size))
        for kind in ("none", "never stalls", "below the size", "above the size"):
            self.assertGreater(kinds.count(kind), 1, kind)

    def test_held_rests(self):
        # Hardly any acknowledgment comes, so that the answers are rare and far away.
        chance = random.Random(SEED + 1)
        for _ in range(400):
            setting = Setting(chance.randint(2, 4), *[
                Policy(chance.choice(["partial", "all", "all"]), every=chance.choice([0, 1, 2, 3]),
                       quick=chance.choice([0, 1, 4])) for _ in (0, 1)])
            conversation = [(0, chance.randint(1, 6), chance.choice(["plain", "plain", "more"]))
                            for _ in range(chance.randint(2, 4))]
            self.assertEqual(padding(setting, conversation), padding_seen(setting, conversation, 0),
                             (setting, conversation))

    def test_far_paddings(self):
        # Only when many full segments more have come does an acknowledgment fall where it must.
        for every, quick, hold, size, conversation, expected in (
            (9, 0, "partial", 2, [(0, 3, "plain"), (0, 7, "plain"), (0, 7, "more"), (0, 3, "plain"), (0, 3, "more")],
             (16, 0)),
            (9, 4, "partial", 5, [(0, 4, "plain"), (0, 5, "push"), (0, 12, "plain"), (0, 2, "plain"), (0, 4, "plain")],
             (41, 0)),
            (9, 2, "partial", 5, [(0, 6, "push"), (0, 1, "plain"), (0, 3, "plain"), (0, 4, "plain")], (41, 1)),
            (5, 4, "all", 5, [(0, 7, "plain"), (0, 8, "plain"), (0, 12, "plain"), (0, 5, "plain"), (0, 12, "plain"),
                              (0, 4, "more")], (37, 0)),
            (2, 2, "partial", 2, [(0, 1, "push"), (0, 1, "plain"), (0, 3, "plain"), (0, 7, "push"), (0, 3, "plain"),
                                  (0, 5, "more")], (6, 0)),
        ):
            with self.subTest(conversation=conversation):
                setting = Setting(size, Policy(hold, every=0), Policy(every=every, quick=quick))
                self.assertEqual(padding_seen(setting, conversation, 0), expected)
                self.assertEqual(padding(setting, conversation), expected)

    def test_orders_of_a_padded_turn(self):
        chance = random.Random(SEED + 2)
        for _ in range(150):
            setting, conversation = some_case(chance, 4)
            for turn in range(len(turns(conversation))):
                found = padding(setting, conversation, turn)
                if found is not None:
                    extra, index = found
                    grown = conversation if index is None else padded(conversation, index, extra)
                    for order in orders_of(grown):
                        self.assertNotIn(turn, outcome(setting, grown, list(order)).stalled)


class LargeTest(unittest.TestCase):
    def test_lengths_grow_above_the_largest(self):
        self.assertEqual(padding(Setting(LARGE), [(0, 1, "more")]), (LARGE - 1, 0))
        self.assertEqual(padding(Setting(LARGE - 1), [(0, LARGE, "more")]), (LARGE - 2, 0))
        self.assertEqual(padding(Setting(LARGE), [(0, LARGE, "more")]), (0, None))
        self.assertEqual(padding(Setting(1), [(0, LARGE, "more")] * 6), (0, None))
        half = LARGE // 2
        setting = Setting(half, Policy(every=0), Policy(every=0, quick=1))
        self.assertEqual(padding(setting, [(0, half + 1, "plain"), (0, 1, "plain")]), (LARGE - 2, 0))

    def test_lengths_grow_with_the_size(self):
        # Between two lengths at which something changes lies another one as soon as all lengths are doubled;
        # from there on an answer grows with the size, but for the one byte that it lies behind a change.
        chance = random.Random(SEED + 3)
        for _ in range(500):
            small, conversation = some_case(chance, 6)
            factor = LARGE // max(small.size, 11)
            for turn in range(len(turns(conversation))):
                double = self.padding_grown(small, conversation, turn, 2)
                large = self.padding_grown(small, conversation, turn, factor)
                if double is not None:
                    double = (double[0] // 2 * factor + double[0] % 2, double[1])
                self.assertEqual(large, double, (small, conversation, turn))

    def padding_grown(self, setting, conversation, turn, factor):
        grown = [(endpoint, length * factor, mode) for endpoint, length, mode in conversation]
        return padding(setting.changed(size=setting.size * factor), grown, turn)

    def test_many_segments_at_a_time(self):
        # What many full segments lead to is what fewer do, if rounds of `every` are left out.
        chance = random.Random(SEED + 4)
        for _ in range(200):
            setting, conversation = some_case(chance, 4)
            grown = []
            for endpoint, length, mode in conversation:
                listener = setting.policies[1 - endpoint]
                first = setting.size * (listener.quick + max(listener.every, 1))
                rounds = setting.size * max(listener.every, 1) * chance.choice([0, 1, 10 ** 12])
                grown.append((endpoint, length + first, mode))
                conversation = conversation[:len(grown) - 1] + [(endpoint, length + first + rounds, mode)] \
                    + conversation[len(grown):]
            for turn in range(len(turns(conversation))):
                self.assertEqual(padding(setting, conversation, turn), padding(setting, grown, turn))

    def test_a_turn_of_a_long_conversation(self):
        setting = Setting(10 ** 9, Policy(every=9, quick=4))
        conversation = [(0, LARGE - at, "plain") for at in range(193)] + [(1, 1, "push")] + [(0, 5, "plain")] * 6
        found = padding(setting, conversation, 2)
        self.assertEqual(verdicts(setting, conversation)[2], "always")
        extra, index = found
        self.assertEqual(verdicts(setting, padded(conversation, index, extra))[2], "never")
        self.assertEqual(verdicts(setting, padded(conversation, index, extra - 1))[2], "always")


class WrongTest(unittest.TestCase):
    def test_six_and_seven_writes(self):
        conversation = [(0, 1, "more")] * 6 + [(1, 1, "more")] * 7
        self.assertEqual(padding(Setting(4), conversation, 0), (2, 0))
        for given in (conversation, conversation + [(0, 1, "plain")]):
            with self.assertRaises(TooLong) as caught:
                padding(Setting(4), given, 1)
            self.assertEqual(caught.exception.many, 7)
        with self.assertRaises(TooLong) as caught:
            padding(Setting(4), [(1, 1, "push")] * 200)
        self.assertEqual(caught.exception.many, 200)

    def test_no_such_turn(self):
        conversation = [(0, 1, "plain"), (1, 1, "plain"), (1, 1, "plain")]
        for turn in strange_values():
            if type(turn) is int and turn in (0, 1):
                continue
            with self.subTest(turn=turn), self.assertRaises(NoTurn) as caught:
                padding(Setting(4), conversation, turn)
            self.assertIs(caught.exception.turn, turn)
        for turn in (True, None, -1, 2, "0", 10 ** 18):
            with self.assertRaises(NoTurn):
                padding(Setting(4), conversation, turn)

    def test_the_empty_conversation_has_no_turn(self):
        with self.assertRaises(NoTurn) as caught:
            padding(Setting(4), [])
        self.assertEqual(caught.exception.turn, 0)

    def test_no_turn_comes_ahead_of_too_long(self):
        conversation = [(0, 1, "plain")] * 7
        for turn in (True, None, -1, 1):
            with self.assertRaises(NoTurn):
                padding(Setting(4), conversation, turn)

    def test_a_wrong_conversation_comes_first(self):
        for value in strange_values():
            if value == [] or value == [(0, 1, "plain")]:
                continue
            for turn in (0, None, -1):
                with self.subTest(value=value), self.assertRaises(BadWrite) as caught:
                    padding(Setting(4), value, turn)
                index = 0 if isinstance(value, list) and len(value) <= 200 else None
                self.assertEqual(caught.exception.index, index)
        with self.assertRaises(BadWrite) as caught:
            padding(Setting(4), [(0, 1, "plain")] * 8 + [(0, LARGE + 1, "plain")], True)
        self.assertEqual(caught.exception.index, 8)


class ValuesTest(unittest.TestCase):
    def test_arguments_by_their_names(self):
        setting, conversation = Setting(4), [(0, 5, "more"), (1, 6, "more")]
        self.assertEqual(padding(turn=1, conversation=conversation, setting=setting), (2, 1))

    def test_arguments_stay(self):
        setting, given = Setting(2, Policy(every=1)), list(EITHER)
        self.assertEqual(padding(setting, given), padding(setting, given))
        self.assertEqual((given, setting), (EITHER, Setting(2, Policy(every=1))))


if __name__ == "__main__":
    unittest.main()
