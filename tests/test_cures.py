"""Point 21: cures of conversations and talks, against trying each list of indices by length."""

import itertools
import random
import unittest

from latewords.conversations import MODES, normal_order
from latewords.cures import changed_conversation, changed_talk, cure, cure_talk
from latewords.errors import BadTalk, BadWrite, TooLong
from latewords.outcomes import outcome
from latewords.papers import never_paper
from latewords.roads import Road
from latewords.settings import Policy, Setting
from latewords.talks import Talk
from latewords.worst import first_stall
from tests.cases import orders_of, some_case, some_policy
from tests.plans import some_plan, some_talk
from tests.values import strange_values

SEED = 20261128
LARGE = 10 ** 18
CALM = Setting(4, Policy("off"))
KEPT = [(0, 1, "more"), (1, 4, "plain"), (0, 1, "more"), (0, 2, "plain"), (1, 1, "more")]
ROUNDS = Talk(3, 0, [0], [(0, 1, 0, 1, "more"), (1, 0, 1, 1, "more"), (0, 1, 0, 1, "push"), (0, 2, 0, 1, "more")])


def lists_of(numbers):
    """All ascending lists of numbers, by length and then as lists compare."""
    return [list(chosen) for many in range(len(numbers) + 1) for chosen in itertools.combinations(numbers, many)]


def with_modes(conversation, chosen, mode):
    return [(endpoint, length, mode if index in chosen else before)
            for index, (endpoint, length, before) in enumerate(conversation)]


def stalls_somehow(setting, conversation):
    road = Road(setting, conversation)
    return any(road.play(list(order)).stall_count for order in orders_of(conversation))


class ConversationCureTest(unittest.TestCase):
    def assert_cure(self, setting, conversation, mode):
        """The choice against each list of indices in turn, and each refusal played."""
        found = cure(setting, conversation, mode=mode)
        self.assertIsInstance(found, tuple)
        choice, refusals = found
        stalling = []
        for chosen in lists_of(range(len(conversation))):
            if not stalls_somehow(setting, with_modes(conversation, chosen, mode)):
                self.assertEqual(choice, chosen, (setting, conversation, mode))
                break
            stalling.append(chosen)
        else:
            self.assertIsNone(choice, (setting, conversation, mode))
        wanted = stalling if choice is None else [chosen for chosen in stalling if len(chosen) < len(choice)]
        self.assertEqual([chosen for chosen, _ in refusals], wanted)
        for refusal in refusals:
            self.assertIsInstance(refusal, tuple)
            changed = with_modes(conversation, refusal[0], mode)
            self.assertEqual(normal_order(changed, refusal[1]), refusal[1])
            self.assertGreater(Road(setting, changed).play(refusal[1]).stall_count, 0)
        return choice

    def test_by_hand(self):
        self.assertEqual(cure(CALM, [], mode="push"), ([], []))
        self.assertEqual(cure(CALM, [(0, 1, "plain")]), ([], []))
        self.assertEqual(cure(CALM, [(0, 1, "more")]), ([0], [([], [0])]))
        self.assertEqual(cure(CALM, [(0, 1, "more")], mode="more"), (None, [([], [0]), ([0], [0])]))
        choice, refusals = cure(CALM, KEPT)
        self.assertEqual(choice, [0, 4])
        self.assertEqual([chosen for chosen, order in refusals], [[], [0], [1], [2], [3], [4]])

    def test_keeping_cures_too(self):
        # Kept bytes wait for the next write and go out full, where a held rest would wait for the timer.
        setting = Setting(4, Policy("all", every=1))
        conversation = [(0, 2, "plain"), (0, 1, "plain"), (0, 1, "plain")]
        for mode in ("push", "more"):
            self.assert_cure(setting, conversation, mode)
        self.assertEqual(cure(Setting(4, Policy(every=0)), [(0, 2, "plain"), (0, 2, "plain")], mode="more")[0], [0])
        self.assertEqual(cure(Setting(4, Policy(every=0)), [(0, 2, "plain"), (0, 2, "plain")], mode="push")[0], [1])

    def test_against_each_list(self):
        chance = random.Random(SEED)
        lengths = {}
        for _ in range(200):
            setting, conversation = some_case(chance, 5)
            for mode in ("push", "more"):
                choice = self.assert_cure(setting, conversation, mode)
                key = None if choice is None else min(len(choice), 2)
                lengths[key] = lengths.get(key, 0) + 1
        self.assertGreater(min(lengths[key] for key in (None, 0, 1, 2)), 3)

    def test_eight_and_nine_writes(self):
        chance = random.Random(SEED + 1)
        for _ in range(4):
            conversation = [(chance.choice([0, 0, 1]), chance.randint(1, 5), chance.choice(["plain", "more"]))
                            for _ in range(8)]
            setting = Setting(4, some_policy(chance), some_policy(chance))
            for mode in ("push", "more"):
                choice, refusals = cure(setting, conversation, mode=mode)
                self.assertEqual(len(refusals), 256 if choice is None else len(
                    [chosen for chosen in lists_of(range(8)) if len(chosen) < len(choice)]))
                if choice is not None:
                    self.assertFalse(stalls_somehow(setting, with_modes(conversation, choice, mode)))
                for chosen, order in refusals:
                    self.assertGreater(outcome(setting, with_modes(conversation, chosen, mode), order).stalls, 0)
        for many in (9, 200):
            with self.assertRaises(TooLong) as caught:
                cure(CALM, [(0, 1, "push")] * many)
            self.assertEqual(caught.exception.many, many)
        with self.assertRaises(BadWrite) as caught:
            cure(CALM, [(0, 1, "push")] * 201)
        self.assertIsNone(caught.exception.index)
        with self.assertRaises(BadWrite) as caught:
            cure(CALM, [(0, 1, "push")] * 8 + [None])
        self.assertEqual(caught.exception.index, 8)

    def test_no_cure(self):
        choice, refusals = cure(CALM, [(0, 1, "push"), (0, 1, "more"), (1, 1, "plain")], mode="more")
        self.assertIsNone(choice)
        self.assertEqual([chosen for chosen, order in refusals], lists_of(range(3)))

    def test_large_numbers(self):
        grown = [(endpoint, length * (LARGE // 4), mode) for endpoint, length, mode in KEPT]
        self.assertEqual(cure(CALM.changed(size=LARGE), grown), cure(CALM, KEPT))

    def test_values(self):
        for value in strange_values():
            if value == [] or value == [(0, 1, "plain")]:
                continue
            with self.subTest(value=value), self.assertRaises(BadWrite):
                cure(CALM, value)
        given = list(KEPT)
        first = repr(cure(CALM, given))
        choice, refusals = cure(conversation=given, mode="push", setting=CALM)
        choice.clear()
        refusals[0][0].append(1)
        refusals[0][1].clear()
        refusals.clear()
        self.assertEqual(repr(cure(CALM, given)), first)
        self.assertEqual(given, KEPT)
        with self.assertRaises(TypeError):
            cure(CALM, KEPT, "push")


class TalkCureTest(unittest.TestCase):
    def assert_cure(self, talk, setting, mode):
        found = cure_talk(talk, setting, mode=mode)
        self.assertIsInstance(found, tuple)
        choice, refusals = found
        stalling = []
        for chosen in lists_of(talk.useful()):
            if never_paper(self.changed(talk, chosen, mode), setting) is not None:
                self.assertEqual(choice, chosen)
                break
            stalling.append(chosen)
        else:
            self.assertIsNone(choice)
        wanted = stalling if choice is None else [chosen for chosen in stalling if len(chosen) < len(choice)]
        self.assertEqual([refusal[0] for refusal in refusals], wanted)
        for chosen, path, order in refusals:
            self.assertTrue(path in talk)
            writes = self.changed(talk, chosen, mode).conversation(path)
            self.assertEqual(normal_order(writes, order), order)
            self.assertGreater(Road(setting, writes).play(order).stall_count, 0)
        return choice

    def changed(self, talk, chosen, mode):
        edges = [edge[:4] + (mode if number in chosen else edge[4],) for number, edge in enumerate(talk.edges())]
        return Talk(talk.node_count, talk.first_node, talk.ends(), edges)

    def test_by_hand(self):
        # The last edge leads nowhere, so its mode does not matter.
        choice, refusals = cure_talk(ROUNDS, CALM)
        self.assertEqual(choice, [0, 1])
        self.assertEqual([refusal[0] for refusal in refusals], [[], [0], [1], [2]])
        self.assertEqual(refusals[2][1], [0, 1])
        choice, refusals = cure_talk(ROUNDS, CALM, mode="more")
        self.assertIsNone(choice)
        self.assertEqual([refusal[0] for refusal in refusals], lists_of([0, 1, 2]))

    def test_nothing_to_cure(self):
        for talk in (Talk(1, 0, [], []), Talk(1, 0, [0], []), Talk(2, 0, [0], [(0, 1, 0, 1, "more")]),
                     Talk(2, 0, [1], [(0, 1, 0, 1, "push")])):
            for mode in ("push", "more"):
                self.assertEqual(cure_talk(talk, CALM, mode=mode), ([], []))

    def test_against_each_list(self):
        chance = random.Random(SEED + 2)
        lengths = {}
        for _ in range(200):
            setting, talk = some_plan(chance, most_nodes=4, most_edges=6)
            for mode in ("push", "more"):
                choice = self.assert_cure(talk, setting, mode)
                key = None if choice is None else min(len(choice), 2)
                lengths[key] = lengths.get(key, 0) + 1
        self.assertGreater(min(lengths[key] for key in (None, 0, 1, 2)), 8)

    def test_eight_and_nine_useful_edges(self):
        rounds = [(0, 1, 0, 1, "more"), (1, 0, 1, 1, "more")]
        useless = [(0, 2, 0, 1, "more")] * 4
        talk = Talk(3, 0, [0], useless[:2] + rounds * 4 + useless[2:])
        choice, refusals = cure_talk(talk, CALM)
        self.assertEqual((choice, len(refusals)), (list(range(2, 10)), 255))
        self.assertEqual([refusal[0] for refusal in refusals], lists_of(range(2, 10))[:-1])
        choice, refusals = cure_talk(talk, CALM, mode="more")
        self.assertEqual((choice, len(refusals)), (None, 256))
        for count in (9, 10, 12):
            talk = Talk(3, 0, [0], (rounds * 6)[:count] + useless[:12 - count])
            with self.assertRaises(TooLong) as caught:
                cure_talk(talk, CALM)
            self.assertEqual(caught.exception.many, count)

    def test_full_talks(self):
        chance = random.Random(SEED + 3)
        tried = 0
        while tried < 5:
            talk = some_talk(chance, 8, 12, 20)
            if len(talk.useful()) == 8:
                tried += 1
                setting = Setting(7, Policy("all", every=2, quick=4), Policy("partial", every=3, quick=4))
                choice, refusals = cure_talk(talk, setting)
                for chosen, path, order in refusals:
                    writes = self.changed(talk, chosen, "push").conversation(path)
                    self.assertGreater(outcome(setting, writes, order).stalls, 0)
                if choice is not None:
                    self.assertIsNone(first_stall(self.changed(talk, choice, "push"), setting))

    def test_values(self):
        first = repr(cure_talk(ROUNDS, CALM))
        choice, refusals = cure_talk(setting=CALM, mode="push", talk=ROUNDS)
        for part in (choice, *refusals[0]):
            part.append(9)
        refusals.clear()
        self.assertEqual(repr(cure_talk(ROUNDS, CALM)), first)
        with self.assertRaises(TypeError):
            cure_talk(ROUNDS, CALM, "push")


class ChangedConversationTest(unittest.TestCase):
    def test_choices(self):
        for choice in ([], [0], [4, 0], [2, 2, 2, 1], list(range(5)) * 3):
            for mode in MODES:
                given, chosen = list(KEPT), list(choice)
                found = changed_conversation(given, chosen, mode)
                self.assertEqual(found, with_modes(KEPT, choice, mode))
                self.assertEqual((given, chosen), (KEPT, choice))
                self.assertIsNot(found, given)
                found.clear()
                self.assertEqual(changed_conversation(given, chosen, mode), with_modes(KEPT, choice, mode))

    def test_values_that_are_no_index(self):
        for value in strange_values() + [5, -1, -5, 10 ** 40]:
            if value in (0, 1, 2) and not isinstance(value, bool):
                continue
            for choice in ([value], [0, 4, value, -9], [value, 7]):
                with self.subTest(choice=choice), self.assertRaises(BadWrite) as caught:
                    changed_conversation(KEPT, choice, "push")
                self.assertIs(caught.exception.index, value)
        with self.assertRaises(BadWrite) as caught:
            changed_conversation([], [0], "push")
        self.assertEqual(caught.exception.index, 0)

    def test_the_conversation_comes_first(self):
        for value in strange_values():
            if value == [] or value == [(0, 1, "plain")]:
                continue
            with self.subTest(value=value), self.assertRaises(BadWrite) as caught:
                changed_conversation(value, [7], "push")
            self.assertEqual(caught.exception.index, 0 if isinstance(value, list) and len(value) <= 200 else None)

    def test_arguments_by_their_names(self):
        self.assertEqual(changed_conversation(mode="push", choice=[1], conversation=KEPT), with_modes(KEPT, [1], "push"))


class ChangedTalkTest(unittest.TestCase):
    def test_choices(self):
        for choice in ([], [3], [2, 0], [1, 1, 3, 1], [3, 2, 1, 0]):
            for mode in MODES:
                chosen = list(choice)
                found = changed_talk(ROUNDS, chosen, mode)
                self.assertIsInstance(found, Talk)
                self.assertEqual((found.node_count, found.first_node, found.ends(), found.useful()), (3, 0, [0], [0, 1, 2]))
                self.assertEqual(found.edges(), [edge[:4] + (mode if number in choice else edge[4],)
                                                 for number, edge in enumerate(ROUNDS.edges())])
                self.assertEqual((chosen, [edge[4] for edge in ROUNDS.edges()]), (choice, ["more", "more", "push", "more"]))

    def test_values_that_are_no_edge(self):
        for value in strange_values() + [4, -1, -4, 10 ** 40]:
            if value in (0, 1, 2) and not isinstance(value, bool):
                continue
            for choice in ([value], [0, 3, value, -9], [value, 7]):
                with self.subTest(choice=choice), self.assertRaises(BadTalk) as caught:
                    changed_talk(ROUNDS, choice, "push")
                self.assertIs(caught.exception.index, value)

    def test_arguments_by_their_names(self):
        self.assertEqual(changed_talk(mode="push", choice=[1], talk=ROUNDS)[1], (1, 0, 1, 1, "push"))


if __name__ == "__main__":
    unittest.main()
