"""Point 10, and points 6 and 8 as far as they tell what turns and orders are."""

import copy
import unittest

from latewords.conversations import MODES, check, normal_order, turns
from latewords.errors import BadOrder, BadWrite
from latewords.roads import Road
from latewords.settings import Setting
from tests.values import strange_values

TALK = [(0, 3, "plain"), (0, 1, "more"), (1, 9, "push"), (0, 2, "plain"), (0, 2, "plain"), (0, 2, "push")]
BAD_WRITES = [
    None, True, 0, "0 1 plain", (), (0,), (0, 1), (0, 1, "plain", 0), [0, 1, "plain"], [], ((0, 1, "plain"),),
    (True, 1, "plain"), (False, 1, "plain"), (2, 1, "plain"), (-1, 1, "plain"), ("0", 1, "plain"), (None, 1, "plain"),
    ([0], 1, "plain"), (0, 0, "plain"), (0, -1, "plain"), (0, 10 ** 18 + 1, "plain"), (0, True, "plain"),
    (1, None, "plain"), (0, "1", "plain"), (0, (1,), "plain"), (0, 1, "Plain"), (0, 1, ""), (0, 1, None), (0, 1, 0),
    (0, 1, True), (0, 1, ["plain"]), (0, 1, ("plain",)), (0, 1, "hold"), ("plain", 1, 0), Setting(4),
]
CALLS = [
    check,
    turns,
    lambda conversation: normal_order(conversation, "slow"),
    lambda conversation: normal_order(conversation, "quick"),
    lambda conversation: normal_order(conversation, None),
    lambda conversation: normal_order(conversation, [7] * 300),
    lambda conversation: Road(Setting(1), conversation),
]


class CheckTest(unittest.TestCase):
    def assert_bad(self, index, conversation):
        before = copy.deepcopy(conversation)
        for call in CALLS:
            with self.assertRaises(BadWrite) as caught:
                call(conversation)
            self.assertEqual(caught.exception.index, index)
        self.assertEqual(conversation, before)

    def test_modes(self):
        self.assertEqual(MODES, ("plain", "push", "more"))
        self.assertIsInstance(MODES, tuple)

    def test_conversations_pass(self):
        self.assertIsNone(check([]))
        self.assertIsNone(check(TALK))
        self.assertIsNone(check(conversation=[(1, 10 ** 18, "more")]))
        for endpoint in (0, 1):
            for mode in MODES:
                self.assertIsNone(check([(endpoint, 1, mode)]))

    def test_what_is_no_list(self):
        for value in strange_values():
            if not isinstance(value, list):
                with self.subTest(value=value):
                    self.assert_bad(None, value)
        self.assert_bad(None, tuple(TALK))

    def test_200_and_201_items(self):
        self.assertIsNone(check([(0, 1, "plain")] * 200))
        self.assert_bad(None, [(0, 1, "plain")] * 201)
        self.assert_bad(None, [None] * 201)
        self.assert_bad(0, [None] * 200)
        self.assert_bad(199, [(0, 1, "plain")] * 199 + [None])

    def test_each_bad_write_at_every_place(self):
        for bad in BAD_WRITES:
            for place in range(len(TALK)):
                with self.subTest(bad=bad, place=place):
                    self.assert_bad(place, TALK[:place] + [bad] + TALK[place + 1:])

    def test_the_first_bad_item_is_told(self):
        for place in range(len(TALK)):
            for later in range(place + 1, len(TALK)):
                broken = list(TALK)
                broken[place] = (0, 0, "plain")
                broken[later] = None
                self.assert_bad(place, broken)

    def test_strange_items(self):
        for value in strange_values():
            if value != (0, 1, "plain"):
                with self.subTest(value=value):
                    self.assert_bad(1, [(0, 1, "plain"), value])


class TurnsTest(unittest.TestCase):
    def test_turns(self):
        self.assertEqual(turns([]), [])
        self.assertEqual(turns([(1, 5, "plain")]), [(1, 0, 1)])
        self.assertEqual(turns(conversation=TALK), [(0, 0, 2), (1, 2, 3), (0, 3, 6)])
        self.assertEqual(turns([(0, 1, "more")] * 4), [(0, 0, 4)])
        self.assertEqual(turns([(0, 1, "plain"), (1, 1, "plain")] * 2), [(0, 0, 1), (1, 1, 2), (0, 2, 3), (1, 3, 4)])
        self.assertEqual(turns([(1, 1, "plain")] * 200), [(1, 0, 200)])

    def test_what_is_returned_is_new(self):
        first = turns(TALK)
        self.assertTrue(all(isinstance(turn, tuple) for turn in first))
        first.clear()
        self.assertEqual(turns(TALK), [(0, 0, 2), (1, 2, 3), (0, 3, 6)])

    def test_the_conversation_stays(self):
        conversation = list(TALK)
        turns(conversation)
        normal_order(conversation, "quick")
        normal_order(conversation, [0, 1, 0, 0, 2, 1])
        self.assertEqual(conversation, TALK)


class OrderTest(unittest.TestCase):
    def assert_bad(self, index, order, conversation=TALK):
        before = copy.deepcopy(order)
        calls = [lambda: normal_order(conversation, order), lambda: Road(Setting(4), conversation).play(order)]
        for call in calls:
            with self.assertRaises(BadOrder) as caught:
                call()
            self.assertEqual(caught.exception.index, index)
        self.assertEqual(order, before)

    def test_words(self):
        self.assertEqual(normal_order(TALK, "slow"), [0, 0, 0, 0, 0, 0])
        self.assertEqual(normal_order(TALK, "quick"), [0, 2, 0, 0, 2, 2])
        self.assertEqual(normal_order(conversation=TALK[:1], order="quick"), [0])
        for word in ("slow", "quick"):
            self.assertEqual(normal_order([], word), [])

    def test_lists(self):
        self.assertEqual(normal_order([], []), [])
        for order in ([0, 0, 0, 0, 0, 0], [0, 1, 0, 0, 2, 1], [0, 2, 0, 0, 2, 2]):
            self.assertEqual(normal_order(TALK, order), order)

    def test_the_list_that_is_returned_is_new(self):
        order = [0, 1, 0, 0, 2, 1]
        answer = normal_order(TALK, order)
        self.assertIsNot(answer, order)
        answer[1] = 0
        self.assertEqual(order, [0, 1, 0, 0, 2, 1])
        for word in ("slow", "quick"):
            answer = normal_order(TALK, word)
            answer[1] = 9
            self.assertNotEqual(normal_order(TALK, word), answer)

    def test_strange_orders(self):
        for value in strange_values():
            if value != []:
                with self.subTest(value=value):
                    self.assert_bad(None, value)
        for value in ("Slow", "quick ", "", ("slow",), ["slow"], (0, 0, 0, 0, 0, 0), [0] * 5, [0] * 7, [], None):
            self.assert_bad(None, value)
        self.assert_bad(None, [0], [])
        self.assert_bad(None, (), [])
        self.assert_bad(None, None, [])

    def test_a_wrong_item_at_every_place(self):
        for wrong in (-1, 3, True, False, None, "0", "1", [], (0,), [0], 10 ** 39, 2 ** 70):
            for place in range(len(TALK)):
                with self.subTest(wrong=wrong, place=place):
                    order = [0] * len(TALK)
                    order[place] = wrong
                    self.assert_bad(place, order)

    def test_only_0_stands_at_the_first_write_of_a_turn(self):
        for place in (0, 2, 3):
            for wrong in (1, 2):
                order = [0] * len(TALK)
                order[place] = wrong
                self.assert_bad(place, order)

    def test_the_first_wrong_item_is_told(self):
        self.assert_bad(1, [0, 3, 1, 0, 3, 0])
        self.assert_bad(2, [0, 2, 1, 0, 3, 0])
        self.assert_bad(4, [0, 2, 0, 0, 3, None])

    def test_a_bad_conversation_is_told_ahead_of_a_bad_order(self):
        for order in ("slow", "odd", None, [0], [9, 9], []):
            for conversation, index in ((None, None), ([None], 0), ([(0, 1, "plain"), (0, 0, "plain")], 1)):
                with self.assertRaises(BadWrite) as caught:
                    normal_order(conversation, order)
                self.assertEqual(caught.exception.index, index)


if __name__ == "__main__":
    unittest.main()
