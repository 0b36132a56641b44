"""Point 15: how the fewest and the most stalls depend on the size."""

import random
import unittest

from latewords.errors import BadWrite, TooLong
from latewords.outcomes import least, most
from latewords.roads import Road
from latewords.settings import Policy, Setting
from latewords.sizes import bands
from tests.cases import orders_of, some_case, some_policy
from tests.values import strange_values

SEED = 20261123
EITHER = [(0, 3, "plain"), (0, 1, "plain")]


def size_sum(conversation):
    return sum(length for _, length, _ in conversation)


class BandsTest(unittest.TestCase):
    def assert_row(self, found):
        """The bands begin at 1, leave no gap, have no end, and no two neighbours are alike."""
        self.assertIsInstance(found, list)
        for band in found:
            self.assertIsInstance(band, tuple)
        self.assertEqual(found[0][0], 1)
        self.assertIsNone(found[-1][1])
        for one, other in zip(found, found[1:]):
            self.assertEqual(one[1] + 1, other[0])
            self.assertLessEqual(one[0], one[1])
            self.assertNotEqual(one[2:], other[2:])

    def band_of(self, found, size):
        hits = [band[2:] for band in found if band[0] <= size and (band[1] is None or size <= band[1])]
        self.assertEqual(len(hits), 1)
        return hits[0]

    def test_the_empty_conversation(self):
        for setting in (Setting(1), Setting(10 ** 18, Policy("off", every=9, quick=4))):
            self.assertEqual(bands(setting, []), [(1, None, 0, 0)])

    def test_by_hand(self):
        # Size 2 lets the order decide, with 3 the second write is sent at the end, above nothing is acknowledged.
        self.assertEqual(bands(Setting(2, Policy(every=1)), EITHER),
                         [(1, 1, 0, 0), (2, 2, 0, 1), (3, 3, 0, 0), (4, None, 1, 1)])

    def test_kept_rests(self):
        # A single kept write stalls with each size that does not divide its length.
        self.assertEqual(bands(Setting(1), [(0, 6, "more")]),
                         [(1, 3, 0, 0), (4, 5, 1, 1), (6, 6, 0, 0), (7, None, 1, 1)])

    def test_one_band(self):
        self.assertEqual(bands(Setting(3), [(0, 7, "push"), (1, 2, "push")]), [(1, None, 0, 0)])

    def test_only_one_of_both_numbers_differs(self):
        found = bands(Setting(2, Policy(every=1)), EITHER)
        self.assertEqual((found[0][2], found[1][2]), (0, 0))
        self.assertEqual((found[0][3], found[1][3]), (0, 1))

    def test_the_size_of_the_setting_does_not_matter(self):
        for size in (1, 2, 7, 10 ** 18):
            self.assertEqual(bands(Setting(size, Policy(every=1)), EITHER), bands(Setting(2, Policy(every=1)), EITHER))

    def test_small_conversations_size_by_size(self):
        chance = random.Random(SEED)
        counts = set()
        for _ in range(250):
            setting, conversation = some_case(chance)
            found = bands(setting, conversation)
            self.assert_row(found)
            counts.add(len(found))
            for size in range(1, size_sum(conversation) + 3):
                sized = setting.changed(size=size)
                expected = (least(sized, conversation)[0], most(sized, conversation)[0])
                self.assertEqual(self.band_of(found, size), expected, (setting, conversation, size))
            sized = setting.changed(size=10 ** 18)
            self.assertEqual(found[-1][2:], (least(sized, conversation)[0], most(sized, conversation)[0]))
        self.assertGreater(max(counts), 5)

    def test_against_roads(self):
        chance = random.Random(SEED + 1)
        for _ in range(60):
            setting, conversation = some_case(chance, 4)
            found = bands(setting, conversation)
            for size in range(1, max([length for _, length, _ in conversation], default=0) + 3):
                road = Road(setting.changed(size=size), conversation)
                stalls = [road.play(list(order)).stall_count for order in orders_of(conversation)]
                self.assertEqual(self.band_of(found, size), (min(stalls), max(stalls)))

    def test_coupled_turns(self):
        # The first segments are counted through all turns, with each size anew.
        chance = random.Random(SEED + 2)
        for _ in range(60):
            setting = Setting(1, *[Policy(chance.choice(["partial", "all"]), every=chance.choice([0, 2, 3]),
                                          quick=chance.randint(1, 4)) for _ in (0, 1)])
            conversation = [(speaker, chance.randint(1, 4), chance.choice(["plain", "plain", "more"]))
                            for speaker in (0, 0, 0, 1, 1, 0, 0, 1, 0, 0)]
            found = bands(setting, conversation)
            self.assert_row(found)
            for size in range(1, 20):
                sized = setting.changed(size=size)
                self.assertEqual(self.band_of(found, size),
                                 (least(sized, conversation)[0], most(sized, conversation)[0]))

    def test_turns_that_begin_in_several_ways(self):
        # A later turn may begin alike after orders that differ in what the earlier ones cost.
        for policies, writes, expected in (
            ((Policy(every=0, quick=4), Policy(every=3, quick=3)),
             [(0, 1), (0, 1), (0, 2), (1, 4), (1, 3, "more"), (0, 4), (0, 3), (1, 4), (0, 1, "more"), (0, 2, "more")],
             [(1, 1, 0, 0), (2, 2, 2, 2), (3, 3, 0, 2), (4, None, 2, 3)]),
            ((Policy(every=0, quick=1),),
             [(0, 3), (0, 4), (0, 3), (1, 3), (1, 3), (0, 1, "more"), (0, 1), (1, 1, "more"), (0, 1), (0, 1)],
             [(1, 1, 0, 0), (2, 2, 2, 4), (3, 6, 3, 3), (7, None, 2, 3)]),
        ):
            setting = Setting(1, *policies)
            conversation = [write if len(write) == 3 else write + ("plain",) for write in writes]
            self.assertEqual(bands(setting, conversation), expected)
            for size in range(1, 9):
                sized = setting.changed(size=size)
                self.assertEqual(self.band_of(expected, size),
                                 (least(sized, conversation)[0], most(sized, conversation)[0]))

    def test_longer_conversations(self):
        chance = random.Random(SEED + 3)
        for _ in range(4):
            setting = Setting(1, some_policy(chance), some_policy(chance))
            conversation = [(chance.choice([0, 0, 0, 0, 0, 1]), chance.randint(1, 9), "plain") for _ in range(60)]
            found = bands(setting, conversation)
            self.assert_row(found)
            for size in list(range(1, 60, 7)) + [61, 80, 600]:
                sized = setting.changed(size=size)
                self.assertEqual(self.band_of(found, size),
                                 (least(sized, conversation)[0], most(sized, conversation)[0]))


class BoundTest(unittest.TestCase):
    def test_a_sum_of_1000(self):
        self.assertEqual(bands(Setting(1), [(0, 1000, "push")]), [(1, None, 0, 0)])
        self.assertEqual(bands(Setting(1), [(0, 1000, "more")])[-3:],
                         [(501, 999, 1, 1), (1000, 1000, 0, 0), (1001, None, 1, 1)])
        self.assertEqual(bands(Setting(1), [(at % 2, 5, "more") for at in range(200)]),
                         [(1, 1, 0, 0), (2, 4, 200, 200), (5, 5, 0, 0), (6, None, 200, 200)])

    def test_200_writes_of_one_turn(self):
        setting, conversation = Setting(1, Policy(every=2, quick=4)), [(0, 5, "plain")] * 200
        found = bands(setting, conversation)
        for size in (1, 5, 7, 50, 333, 334, 999, 1000, 1001):
            sized = setting.changed(size=size)
            hits = [band[2:] for band in found if band[0] <= size and (band[1] is None or size <= band[1])]
            self.assertEqual(hits, [(least(sized, conversation)[0], most(sized, conversation)[0])])

    def test_larger_sums(self):
        for conversation, many in (
            ([(0, 1001, "push")], 1001), ([(0, 500, "plain"), (1, 501, "plain")], 1001),
            ([(0, 5, "plain")] * 199 + [(1, 6, "plain")], 1001), ([(0, 10 ** 18, "more")] * 200, 200 * 10 ** 18),
        ):
            with self.assertRaises(TooLong) as caught:
                bands(Setting(4), conversation)
            self.assertEqual(caught.exception.many, many)

    def test_a_wrong_conversation_comes_first(self):
        for value in strange_values():
            if value == [] or value == [(0, 1, "plain")]:
                continue
            with self.subTest(value=value), self.assertRaises(BadWrite) as caught:
                bands(Setting(4), value)
            index = 0 if isinstance(value, list) and len(value) <= 200 else None
            self.assertEqual(caught.exception.index, index)
        with self.assertRaises(BadWrite) as caught:
            bands(Setting(4), [(0, 2000, "plain"), (0, 1, "pull")])
        self.assertEqual(caught.exception.index, 1)


class ValuesTest(unittest.TestCase):
    def test_arguments_by_their_names(self):
        setting = Setting(4, Policy(every=1))
        self.assertEqual(bands(conversation=EITHER, setting=setting), bands(setting, EITHER))

    def test_arguments_stay_and_lists_are_new(self):
        setting, given = Setting(4, Policy(every=1)), list(EITHER)
        kept = repr(bands(setting, given))
        bands(setting, given).clear()
        self.assertEqual(repr(bands(setting, given)), kept)
        self.assertEqual((given, setting), (EITHER, Setting(4, Policy(every=1))))


if __name__ == "__main__":
    unittest.main()
