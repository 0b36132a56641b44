"""Point 22: the greatest difference of stalls by two settings, against all paths of some length."""

import itertools
import random
import unittest

from latewords.gaps import gap, gap_holds
from latewords.outcomes import outcome
from latewords.roads import Road
from latewords.settings import Policy, Setting
from latewords.talks import Talk
from tests.cases import some_policy
from tests.plans import paths_up_to, some_plan, some_talk
from tests.values import strange_values

SEED = 20261129
LARGE = 10 ** 18
CALM = Setting(4, Policy("off"))
HELD = Setting(4, Policy("all", every=0))
# 5 bytes stall with HELD in each round of two turns, 4 bytes in none.
ROUNDS = Talk(2, 0, [0], [(0, 1, 0, 5, "plain"), (1, 0, 1, 4, "plain"), (0, 1, 0, 4, "plain")])
LINE = Talk(3, 0, [2], [(0, 1, 0, 5, "plain"), (0, 1, 0, 4, "plain"), (1, 2, 1, 5, "plain"), (1, 2, 1, 4, "plain")])


def difference(talk, one, other, path, order):
    """The stalls of a path by one setting less those by the other, of any length."""
    return stalls_of(talk, one, path, order) - stalls_of(talk, other, path, order)


def stalls_of(talk, setting, path, order):
    writes = [talk[number][2:] for number in path]
    if len(writes) <= 200:
        return outcome(setting, writes, order).stalls
    # Turns count first segments together, so a long path is cut where turns end, with the quicks that are left.
    cuts = [at for at in range(1, len(writes)) if writes[at][0] != writes[at - 1][0]]
    stalls = 0
    for start, stop in zip([0] + cuts, cuts + [len(writes)]):
        listener = 1 - writes[start][0]
        road = Road(setting, writes[start:stop]).play(order)
        stalls += road.stall_count
        quick = setting.policies[listener].quick
        setting = setting.changed(endpoint=listener, quick=max(0, quick - road.segments_at(listener)))
    return stalls


def plans(seed, count, **sizes):
    chance = random.Random(seed)
    for _ in range(count):
        one, talk = some_plan(chance, **sizes)
        other = Setting(chance.randint(1, 5), some_policy(chance), some_policy(chance))
        for order in ("quick", "slow"):
            yield chance, talk, one, other, order


class GapTest(unittest.TestCase):
    def assert_gap(self, talk, one, other, order, most_edges=6):
        found = gap(talk, one, other, order=order)
        self.assertIsInstance(found, tuple)
        about = (talk.edges(), one, other, order, found)
        seen = [difference(talk, one, other, path, order) for path in paths_up_to(talk, most_edges)]
        if found[0] == "most":
            self.assertEqual(len(found), 3)
            self.assertTrue(found[2] in talk, about)
            self.assertEqual(difference(talk, one, other, found[2], order), found[1], about)
            self.assertLessEqual(max(seen, default=-LARGE), found[1], about)
        elif found[0] == "grows":
            self.assertEqual(len(found), 4)
            self.assert_grows(talk, one, other, order, found)
        else:
            self.assertEqual((found, seen), (("none",), []))
        self.assertIs(gap_holds(talk, one, other, found, order=order), True, about)
        return found

    def assert_grows(self, talk, one, other, order, found):
        _, head, cycle, tail = found
        self.assertTrue(cycle)
        played = []
        for many in range(9):
            path = head + cycle * many + tail
            self.assertTrue(path in talk)
            played.append(difference(talk, one, other, path, order))
        self.assertTrue(all(low < high for low, high in zip(played[1:], played[2:])), (found, played))

    def test_by_hand(self):
        self.assertEqual(gap(LINE, HELD, CALM), ("most", 2, [0, 2]))
        self.assertEqual(gap(LINE, CALM, HELD), ("most", 0, [1, 3]))
        self.assertEqual(gap(LINE, HELD, HELD)[:2], ("most", 0))
        self.assertEqual(gap(ROUNDS, HELD, CALM)[0], "grows")
        self.assert_grows(ROUNDS, HELD, CALM, "quick", gap(ROUNDS, HELD, CALM))
        self.assertEqual(gap(ROUNDS, CALM, HELD)[:2], ("most", 0))
        self.assertEqual(gap(Talk(2, 0, [1], [(0, 1, 0, 5, "plain")]), CALM, HELD), ("most", -1, [0]))

    def test_no_path_and_the_empty_path(self):
        for talk in (Talk(1, 0, [], []), Talk(2, 0, [1], []), Talk(2, 0, [], [(0, 1, 0, 1, "plain")])):
            for order in ("quick", "slow"):
                self.assertEqual(gap(talk, HELD, CALM, order=order), ("none",))
                self.assertIs(gap_holds(talk, HELD, CALM, ("none",), order=order), True)
        talk = Talk(2, 0, [0], [(0, 1, 0, 5, "plain")])
        self.assertEqual(gap(talk, HELD, CALM), ("most", 0, []))
        self.assertIs(gap_holds(talk, HELD, CALM, ("none",)), False)

    def test_the_order_is_quick_by_default(self):
        # With every 1 a clearing lets the third byte out as a partial segment of its own, and the next one waits.
        setting, other = Setting(2, Policy(every=1)), Setting(2, Policy("off"))
        talk = Talk(3, 0, [2], [(0, 1, 0, 3, "plain"), (1, 2, 0, 1, "plain")])
        self.assertEqual(gap(talk, setting, other), ("most", 1, [0, 1]))
        self.assertEqual(gap(talk, setting, other, order="quick"), ("most", 1, [0, 1]))
        self.assertEqual(gap(talk, setting, other, order="slow"), ("most", 0, [0, 1]))
        self.assertIs(gap_holds(talk, setting, other, ("most", 1, [0, 1])), True)
        self.assertIs(gap_holds(talk, setting, other, ("most", 1, [0, 1]), order="slow"), False)
        self.assertIs(gap_holds(talk, setting, other, ("most", 0, [0, 1]), order="slow"), True)

    def test_against_all_paths(self):
        words = {}
        for _, talk, one, other, order in plans(SEED, 300, most_nodes=4, most_edges=6):
            word = self.assert_gap(talk, one, other, order)[0]
            words[word] = words.get(word, 0) + 1
        self.assertGreater(min(words["most"], words["grows"]), 50)

    def test_acyclic_talks_against_each_path(self):
        chance = random.Random(SEED + 1)
        for _ in range(100):
            edges = [(*sorted(chance.sample(range(5), 2)), chance.randint(0, 1), chance.randint(1, 9),
                      chance.choice(["plain", "plain", "push", "more"])) for _ in range(8)]
            talk = Talk(5, 0, [4], edges)
            one, other = [Setting(chance.randint(2, 5), some_policy(chance), some_policy(chance)) for _ in (0, 1)]
            seen = [difference(talk, one, other, path, "slow") for path in paths_up_to(talk, 4)]
            found = gap(talk, one, other, order="slow")
            self.assertEqual(found[1:2], (max(seen),) if seen else ())

    def test_a_setting_against_itself(self):
        for _, talk, one, _, order in plans(SEED + 2, 50):
            found = gap(talk, one, one, order=order)
            self.assertEqual(found[:2], ("most", 0))
            self.assertTrue(found[2] in talk)

    def test_turned_around(self):
        # A difference that does not grow has a greatest one; turned around it may grow.
        for _, talk, one, other, order in plans(SEED + 3, 50):
            self.assert_gap(talk, other, one, order, 4)
            if gap(talk, one, other, order=order)[0] == "most" and gap(talk, other, one, order=order)[0] == "most":
                most, least = gap(talk, one, other, order=order)[1], -gap(talk, other, one, order=order)[1]
                self.assertLessEqual(least, most)

    def test_first_segments(self):
        # The difference comes only from the rounds that have first segments left.
        talk = Talk(2, 0, [0], [(0, 1, 0, 5, "plain"), (1, 0, 1, 5, "plain")])
        for quick in range(5):
            early = HELD.changed(quick=quick)
            found = gap(talk, HELD, early)
            self.assertEqual(found[:2], ("most", 2 * ((quick + 1) // 2)))
            self.assertGreaterEqual(len(found[2]), 2 * ((quick + 1) // 2))
            self.assert_gap(talk, HELD, early, "quick")
            self.assertEqual(gap(talk, early, HELD), ("most", 0, []))

    def test_full_talks(self):
        chance = random.Random(SEED + 4)
        for _ in range(60):
            talk = some_talk(chance, 8, 12, LARGE // 3)
            one = Setting(LARGE // 7, Policy("partial", every=9, quick=4), Policy(every=2, quick=4))
            other = Setting(chance.choice([1, 1000, LARGE]), Policy("all", every=3, quick=4), Policy("partial", quick=3))
            for order in ("quick", "slow"):
                found = gap(talk, one, other, order=order)
                self.assertIs(gap_holds(talk, one, other, found, order=order), True)
                if found[0] == "most" and len(found[2]) <= 200:
                    self.assertEqual(difference(talk, one, other, found[2], order), found[1])


class GapHoldsTest(unittest.TestCase):
    def test_other_paths(self):
        self.assertIs(gap_holds(LINE, HELD, CALM, ("most", 2, [0, 2])), True)
        for path, least in (([1, 2], 1), ([0, 3], 1), ([1, 3], 0)):
            self.assertIs(gap_holds(LINE, HELD, CALM, ("most", 2, path)), False)
            self.assertIs(gap_holds(LINE, HELD, CALM, ("most", least, path)), False)
        twice = Talk(2, 0, [1], [(0, 1, 0, 5, "plain"), (0, 1, 0, 6, "plain"), (0, 1, 0, 4, "plain")])
        for path, expected in (([0], True), ([1], True), ([2], False)):
            self.assertIs(gap_holds(twice, HELD, CALM, ("most", 1, path)), expected)

    def test_most_against_all_paths(self):
        counts = [0, 0]
        for chance, talk, one, other, order in plans(SEED + 5, 80):
            found = gap(talk, one, other, order=order)
            for path in itertools.islice(paths_up_to(talk, 4), 30):
                own = difference(talk, one, other, path, order)
                for told in {own, own + 1, own - 1, found[1] if found[0] == "most" else 0}:
                    wanted = found[0] == "most" and told == own == found[1]
                    self.assertIs(gap_holds(talk, one, other, ("most", told, path), order=order), wanted)
                    counts[wanted] += 1
        self.assertGreater(min(counts), 100)

    def test_growth_against_played_rounds(self):
        counts = [0, 0]
        for chance, talk, one, other, order in plans(SEED + 6, 120, most_nodes=3, most_edges=5):
            pieces = [path for count in range(4) for path in itertools.product(range(len(talk)), repeat=count)]
            pieces = [list(piece) for piece in chance.sample(pieces, min(len(pieces), 25))] + [[]]
            for head, cycle, tail in itertools.islice(itertools.product(pieces, pieces, pieces), 4000):
                if not (head + tail in talk and head + cycle + tail in talk):
                    continue
                self.count(counts, talk, one, other, order, (head, cycle, tail))
        self.assertGreater(min(counts), 30)

    def count(self, counts, talk, one, other, order, parts):
        """Judge lists by twelve rounds played; by then no first segments are left, and each round is like the last."""
        head, cycle, tail = parts
        whole = [head + cycle * many + tail for many in range(13)]
        wanted = bool(cycle) and all(path in talk for path in whole)
        if wanted:
            played = [difference(talk, one, other, path, order) for path in whole]
            wanted = all(low < high for low, high in zip(played[1:], played[2:]))
        self.assertIs(gap_holds(talk, one, other, ("grows", *parts), order=order), wanted,
                      (talk.edges(), one, other, order, parts))
        counts[wanted] += 1

    def test_longer_heads_and_tails(self):
        for parts, expected in ((([], [0, 1], []), True), (([2, 1], [0, 1], []), True), (([], [0, 1], [2, 1] * 3), True),
                                (([0], [1, 0], [1]), True), (([0], [1, 2], [1]), False), (([], [2, 1], []), False),
                                (([0, 1], [], []), False), (([], [], []), False), (([0], [0, 1], []), False),
                                (([], [0, 1], [1]), False), (([], [0], [1]), False), (([], [1, 0], []), False),
                                (([0], [1], []), False), (([], [0, 1, 2, 1], []), True), (([2], [1, 0], [1]), True)):
            with self.subTest(parts=parts):
                self.assertIs(gap_holds(ROUNDS, HELD, CALM, ("grows", *parts)), expected)
                self.assertIs(gap_holds(ROUNDS, CALM, HELD, ("grows", *parts)), False)

    def test_a_cycle_that_must_begin_where_it_ends(self):
        # Both nodes are ends, so that no, one and three edges are paths, but two rounds are none.
        talk = Talk(2, 0, [0, 1], [(0, 1, 0, 5, "plain"), (1, 0, 1, 5, "plain")])
        self.assertIs(gap_holds(talk, HELD, CALM, ("grows", [], [0], [])), False)
        self.assertIs(gap_holds(talk, HELD, CALM, ("grows", [], [0, 1, 0], [])), False)
        self.assertIs(gap_holds(talk, HELD, CALM, ("grows", [], [0, 1], [])), True)

    def test_growth_that_begins_with_the_second_round(self):
        # From no round to one nothing need grow; with first segments the first rounds may add nothing.
        early = HELD.changed(quick=4)
        talk = Talk(2, 0, [0], [(0, 1, 0, 5, "plain"), (1, 0, 1, 5, "plain")])
        for head, expected in (([], False), ([0, 1], True), ([0, 1, 0, 1], True)):
            self.assertIs(gap_holds(talk, early, CALM, ("grows", head, [0, 1], [])), expected)
        found = gap(talk, early, CALM)
        self.assertEqual(found[0], "grows")
        self.assertIs(gap_holds(talk, early, CALM, found), True)

    def test_lists_of_more_than_200_edges(self):
        self.assertIs(gap_holds(ROUNDS, HELD, CALM, ("grows", [2, 1] * 150, [0, 1] * 120, [2, 1] * 170)), True)
        self.assertIs(gap_holds(ROUNDS, HELD, CALM, ("grows", [2, 1] * 150, [2, 1] * 120, [2, 1] * 170)), False)
        self.assertIs(gap_holds(ROUNDS, CALM, HELD, ("most", 0, [2, 1] * 300)), True)
        self.assertIs(gap_holds(ROUNDS, CALM, HELD, ("most", 0, [2, 1] * 300 + [0, 1])), False)
        self.assertIs(gap_holds(ROUNDS, CALM, HELD, ("most", 0, [2, 1] * 300 + [2])), False)

    def test_any_value(self):
        answers = (("none",), ("most", 2, [0, 2]), ("most", 0, []), ("grows", [], [0, 1], []))
        for value in strange_values() + [[*answers[0]], [*answers[1]], "none", ("None",), ("none", None), ("most",),
                                         ("most", 2), ("most", 2, [0, 2], 0), ("grows", [], [0, 1]), ("grows",),
                                         ("grows", [], [0, 1], [], []), (None, 2, [0, 2]), answers, LINE, HELD, ()]:
            for talk in (LINE, ROUNDS, Talk(1, 0, [], [])):
                with self.subTest(value=value):
                    self.assertIs(gap_holds(talk, HELD, CALM, value), False)

    def test_any_value_in_each_place(self):
        for talk, answer in ((LINE, ("most", 2, [0, 2])), (ROUNDS, ("grows", [], [0, 1], []))):
            for place in range(len(answer)):
                for value in strange_values() + [list(answer), answer, (0, 2), (0, 1), 2.5]:
                    other = answer[:place] + (value,) + answer[place + 1:]
                    same = repr(other) == repr(answer)
                    with self.subTest(other=other):
                        self.assertIs(gap_holds(talk, HELD, CALM, other), same)
        one = Talk(2, 0, [1], [(0, 1, 0, 5, "plain")])
        for told, path, expected in ((1, [0], True), (True, [0], False), (1, [False], False), (1, (0,), False)):
            self.assertIs(gap_holds(one, HELD, CALM, ("most", told, path)), expected)
        for parts in (([False], [1, 0], [1]), ([0], [True, 0], [1]), ([0], [1, 0], [True])):
            self.assertIs(gap_holds(ROUNDS, HELD, CALM, ("grows", *parts)), False)

    def test_none_is_only_for_talks_without_a_path(self):
        for talk in (LINE, ROUNDS, Talk(1, 0, [0], [])):
            self.assertIs(gap_holds(talk, HELD, CALM, ("none",)), False)
        for answer in (("most", 0, []), ("grows", [], [0], [])):
            self.assertIs(gap_holds(Talk(1, 0, [], []), HELD, CALM, answer), False)


class ValuesTest(unittest.TestCase):
    def test_lists_are_new_and_answers_stay(self):
        for talk in (LINE, ROUNDS):
            kept = repr(gap(talk, HELD, CALM))
            answer = gap(talk, HELD, CALM)
            self.assertIs(gap_holds(talk, HELD, CALM, answer), True)
            self.assertEqual(repr(answer), kept)
            for part in answer:
                if isinstance(part, list):
                    part.append(7)
            self.assertEqual(repr(gap(talk, HELD, CALM)), kept)

    def test_arguments_by_their_names(self):
        self.assertEqual(gap(order="quick", other=CALM, one=HELD, talk=LINE), ("most", 2, [0, 2]))
        self.assertIs(gap_holds(order="quick", answer=("most", 2, [0, 2]), other=CALM, one=HELD, talk=LINE), True)
        with self.assertRaises(TypeError):
            gap(LINE, HELD, CALM, "quick")
        with self.assertRaises(TypeError):
            gap_holds(LINE, HELD, CALM, ("none",), "quick")


if __name__ == "__main__":
    unittest.main()
