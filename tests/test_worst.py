"""Point 19: first stalls, the fewest and the most stalls of so many turns, and shares."""

import random
import unittest
from math import gcd

from latewords.conversations import normal_order, turns
from latewords.outcomes import least, most, outcome
from latewords.roads import Road
from latewords.settings import Policy, Setting
from latewords.talks import Talk
from latewords.turngraphs import TurnGraph
from latewords.worst import fewest_stalls, first_stall, most_stalls, share
from tests.plans import paths_up_to, some_plan, some_talk

SEED = 20261126
LARGE = 10 ** 18
CALM = Setting(4, Policy("off"))
# Each round is a turn of endpoint 0 that stalls (a kept rest) or not, and one of endpoint 1 that does not.
ROUNDS = Talk(2, 0, [0], [(0, 1, 0, 4, "plain"), (0, 1, 0, 1, "more"), (1, 0, 1, 4, "plain")])
ALWAYS = Talk(2, 0, [0, 1], [(0, 1, 0, 1, "more"), (1, 0, 1, 1, "more")])


def plan_of(chance, most_nodes=4, most_edges=6):
    return some_plan(chance, most_nodes=most_nodes, most_edges=most_edges)


def stalls_by_turns(graph, ends, first, count):
    """For each number of turns up to count the set of the stalls of all rows of so many arcs to an end."""
    reach, found = {first: {0}}, []
    for _ in range(count + 1):
        found.append(set().union(*[stalls for station, stalls in reach.items() if station[0] in ends]))
        after = {}
        for source, target, stalls in graph.arcs():
            after.setdefault(target, set()).update(total + stalls for total in reach.get(source, ()))
        reach = after
    return found


def cycles_of(arcs):
    """All cycles of arcs that come to no station twice."""
    found = []

    def go_on(way):
        for arc in arcs:
            if arc[0] == way[-1][1]:
                if arc[1] == way[0][0]:
                    found.append(way + [arc])
                elif arc[1] > way[0][0] and all(arc[1] != other[1] for other in way):
                    go_on(way + [arc])

    for arc in arcs:
        if arc[1] > arc[0]:
            go_on([arc])
    return found


class FirstStallTest(unittest.TestCase):
    def assert_stalls(self, talk, setting, found):
        self.assertIsInstance(found, tuple)
        path, order = found
        self.assertTrue(path in talk)
        self.assertIsInstance(order, list)
        writes = talk.conversation(path)
        self.assertEqual(normal_order(writes, order), order)
        self.assertGreater(outcome(setting, writes, order).stalls, 0)

    def test_by_hand(self):
        self.assertEqual(first_stall(ROUNDS, CALM), ([1, 2], [0, 0]))
        self.assertEqual(first_stall(ALWAYS, CALM), ([0], [0]))
        self.assertIsNone(first_stall(Talk(2, 0, [0], [(0, 1, 0, 4, "plain"), (1, 0, 1, 4, "plain")]), CALM))

    def test_talks_without_paths_and_without_writes(self):
        for talk in (Talk(1, 0, [], []), Talk(2, 0, [], [(0, 1, 0, 1, "more")]), Talk(1, 0, [0], []),
                     Talk(2, 0, [0], [(0, 1, 0, 1, "more")])):
            self.assertIsNone(first_stall(talk, Setting(4)))

    def test_the_way_to_the_end_counts(self):
        # The stall that comes first has a long way to the end.
        talk = Talk(6, 0, [5], [(0, 1, 0, 1, "more"), (1, 2, 1, 4, "plain"), (2, 3, 0, 4, "plain"), (3, 4, 1, 4, "plain"),
                                (4, 5, 0, 4, "plain"), (0, 4, 1, 4, "plain"), (4, 5, 0, 1, "more")])
        self.assertEqual(first_stall(talk, CALM), ([5, 6], [0, 0]))

    def test_against_all_paths(self):
        chance = random.Random(SEED)
        stalls = calm = later = 0
        for _ in range(400):
            setting, talk = plan_of(chance)
            found = first_stall(talk, setting)
            if found is not None:
                self.assert_stalls(talk, setting, found)
            least_edges = 7 if found is None else len(found[0])
            for path in paths_up_to(talk, min(least_edges - 1, 5)):
                self.assertEqual(most(setting, talk.conversation(path))[0], 0, (talk.edges(), setting, path))
            stalls += found is not None
            later += found is not None and least_edges > 2
            calm += found is None
        self.assertGreater(min(stalls, calm, later), 20)

    def test_rare_stalls(self):
        # Only when endpoint 1 has acknowledged so many first segments does a held rest wait.
        for quick in range(5):
            setting = Setting(4, Policy("all", every=0), Policy("off", every=0, quick=quick))
            talk = Talk(2, 0, [0], [(0, 1, 0, 5, "plain"), (1, 0, 1, 1, "plain")])
            path, order = first_stall(talk, setting)
            self.assertEqual(path, [0, 1] * ((quick + 1) // 2 + 1))
            self.assert_stalls(talk, setting, (path, order))

    def test_played_on_a_road(self):
        chance = random.Random(SEED + 1)
        for _ in range(100):
            setting, talk = plan_of(chance)
            found = first_stall(talk, setting)
            if found is not None and len(found[0]) < 30:
                road = Road(setting, talk.conversation(found[0])).play(found[1])
                self.assertGreater(road.stall_count, 0)

    def test_full_talks(self):
        chance = random.Random(SEED + 2)
        for _ in range(60):
            talk = some_talk(chance, 8, 12, LARGE // 3)
            setting = Setting(LARGE // 5, Policy("partial", every=9, quick=4), Policy(every=2, quick=4))
            found = first_stall(talk, setting)
            if found is not None:
                self.assert_stalls(talk, setting, found)


class CountsTest(unittest.TestCase):
    def test_no_turns(self):
        for function in (fewest_stalls, most_stalls):
            self.assertEqual(function(ROUNDS, CALM, 0), 0)
            self.assertEqual(function(Talk(1, 0, [0], []), CALM, 0), 0)
            self.assertIsNone(function(Talk(1, 0, [0], []), CALM, 1))
            self.assertIsNone(function(Talk(2, 0, [1], [(0, 1, 0, 1, "more")]), CALM, 0))
            self.assertIsNone(function(Talk(1, 0, [], []), CALM, 0))
            self.assertIsNone(function(Talk(1, 0, [], []), CALM, LARGE))

    def test_numbers_of_turns_that_no_conversation_has(self):
        for function in (fewest_stalls, most_stalls):
            for count in (1, 3, 7, 9, 11, LARGE - 1):
                self.assertIsNone(function(ROUNDS, CALM, count))
            talk = Talk(3, 0, [2], [(0, 1, 0, 1, "more"), (1, 2, 1, 1, "more")])
            self.assertEqual([function(talk, CALM, count) for count in range(4)], [None, None, 2, None])
            self.assertIsNone(function(talk, CALM, LARGE))

    def test_rounds(self):
        for count in (2, 4, 6, 8, 10, 12, 100, LARGE, LARGE - 2, 2 ** 59, 2 ** 59 + 2):
            self.assertEqual(fewest_stalls(ROUNDS, CALM, count), 0)
            self.assertEqual(most_stalls(ROUNDS, CALM, count), count // 2)
        for count in (0, 1, 2, 5, 8, 9, 10, LARGE - 1, LARGE):
            self.assertEqual(fewest_stalls(ALWAYS, CALM, count), count)
            self.assertEqual(most_stalls(ALWAYS, CALM, count), count)

    def test_rounds_that_begin_with_first_segments(self):
        # A held rest waits as soon as none is left of the first segments; each turn of 0 takes two of them, or the last one.
        for quick in range(5):
            setting = Setting(4, Policy("all", every=0), Policy("off", every=0, quick=quick))
            talk = Talk(2, 0, [0, 1], [(0, 1, 0, 5, "plain"), (1, 0, 1, 1, "plain")])
            for count in (1, 2, 3, 4, 5, 6, 7, 8, 9, 50, 51, LARGE, LARGE - 1):
                calm = (quick + 1) // 2
                expected = max(0, (count + 1) // 2 - calm)
                self.assertEqual(fewest_stalls(talk, setting, count), expected)
                self.assertEqual(most_stalls(talk, setting, count), expected)

    def test_a_stall_in_every_third_round(self):
        # Three rounds on, and an arm that leads from each round to an end.
        edges = [(0, 1, 0, 4, "plain"), (1, 2, 1, 4, "plain"), (2, 3, 0, 4, "plain"), (3, 4, 1, 4, "plain"),
                 (4, 5, 0, 1, "more"), (5, 0, 1, 4, "plain")]
        talk = Talk(6, 0, [0, 2, 4], edges)
        for rounds in (0, 1, 2, 3, 4, 10, LARGE // 6, LARGE // 2):
            for function in (fewest_stalls, most_stalls):
                self.assertEqual(function(talk, CALM, 2 * rounds), rounds // 3)

    def test_against_arcs_turn_by_turn(self):
        chance = random.Random(SEED + 3)
        differing = 0
        for _ in range(150):
            setting, talk = plan_of(chance)
            first = (talk.first_node, -1, setting.policies[0].quick, setting.policies[1].quick)
            for count, stalls in enumerate(stalls_by_turns(TurnGraph(talk, setting), talk.ends(), first, 14)):
                self.assertEqual(fewest_stalls(talk, setting, count), min(stalls, default=None))
                self.assertEqual(most_stalls(talk, setting, count), max(stalls, default=None))
                differing += len(stalls) > 1
        self.assertGreater(differing, 100)

    def test_against_all_paths(self):
        chance = random.Random(SEED + 4)
        for _ in range(120):
            setting, talk = plan_of(chance, 3, 5)
            counts = {}
            for path in paths_up_to(talk, 5):
                writes = talk.conversation(path)
                low, high = counts.get(len(turns(writes)), (99, 0))
                counts[len(turns(writes))] = (min(low, least(setting, writes)[0]), max(high, most(setting, writes)[0]))
            for count, (low, high) in counts.items():
                self.assertLessEqual(fewest_stalls(talk, setting, count), low)
                self.assertGreaterEqual(most_stalls(talk, setting, count), high)
                # A turn has at most two edges here, so that all conversations of two turns are among them.
                if count <= 2:
                    self.assertEqual((fewest_stalls(talk, setting, count), most_stalls(talk, setting, count)), (low, high))

    def test_full_talks(self):
        chance = random.Random(SEED + 5)
        for _ in range(40):
            talk = some_talk(chance, 8, 12, 30)
            setting = Setting(7, Policy("partial", every=9, quick=4), Policy(every=2, quick=4))
            for count in (LARGE, LARGE - 1):
                low, high = fewest_stalls(talk, setting, count), most_stalls(talk, setting, count)
                self.assertEqual(low is None, high is None)
                if low is not None:
                    self.assertTrue(0 <= low <= high <= count)


class ShareTest(unittest.TestCase):
    def test_by_hand(self):
        self.assertEqual(share(ROUNDS, CALM), (1, 2))
        self.assertEqual(share(ALWAYS, CALM), (1, 1))
        calm = Talk(2, 0, [0], [(0, 1, 0, 4, "plain"), (1, 0, 1, 4, "plain")])
        self.assertEqual(share(calm, CALM), (0, 1))

    def test_no_cycle(self):
        for talk in (Talk(1, 0, [], []), Talk(1, 0, [0], []), Talk(2, 0, [1], [(0, 1, 0, 1, "more")]),
                     Talk(3, 0, [2], [(0, 1, 0, 1, "more"), (1, 0, 1, 1, "more"), (1, 2, 1, 1, "more"),
                                      (2, 0, 0, 4, "plain")][:1]),
                     Talk(2, 0, [], [(0, 1, 0, 1, "more"), (1, 0, 1, 1, "more")])):
            self.assertIsNone(share(talk, CALM))

    def test_a_cycle_of_edges_that_no_row_of_arcs_goes_along(self):
        # The only edges that come back are useless.
        talk = Talk(4, 0, [3], [(0, 3, 0, 1, "more"), (1, 2, 0, 1, "more"), (2, 1, 1, 1, "more")])
        self.assertIsNone(share(talk, CALM))

    def test_lowest_terms(self):
        edges = [(0, 1, 0, 4, "plain"), (1, 2, 1, 4, "plain"), (2, 3, 0, 4, "plain"), (3, 4, 1, 4, "plain"),
                 (4, 5, 0, 1, "more"), (5, 0, 1, 1, "more")]
        self.assertEqual(share(Talk(6, 0, [0], edges), CALM), (1, 3))
        self.assertEqual(share(Talk(6, 0, [0], edges[:5] + [(5, 0, 1, 4, "plain")]), CALM), (1, 6))

    def test_the_greatest_of_several_cycles(self):
        # A round of two turns with one stall, and one of four turns with three.
        edges = [(0, 1, 0, 1, "more"), (1, 0, 1, 4, "plain"), (1, 2, 1, 1, "more"), (2, 3, 0, 1, "more"),
                 (3, 0, 1, 4, "plain")]
        self.assertEqual(share(Talk(4, 0, [0], edges), CALM), (3, 4))
        self.assertEqual(share(Talk(4, 0, [0], edges[:2] + edges[3:]), CALM), (1, 2))

    def test_against_all_cycles(self):
        chance = random.Random(SEED + 6)
        seen = {}
        for _ in range(500):
            setting, talk = plan_of(chance, 5, 8)
            arcs = TurnGraph(talk, setting).arcs()
            if len(arcs) > 60:
                continue
            found = share(talk, setting)
            cycles = cycles_of(arcs)
            if not cycles:
                self.assertIsNone(found)
            else:
                stalled, count = found
                self.assertIsInstance(found, tuple)
                self.assertEqual(gcd(stalled, count), 1)
                sums = [(sum(arc[2] for arc in cycle), len(cycle)) for cycle in cycles]
                self.assertTrue(all(stalls * count <= stalled * length for stalls, length in sums), (talk.edges(), setting))
                self.assertTrue(any(stalls * count == stalled * length for stalls, length in sums))
            seen[found] = seen.get(found, 0) + 1
        self.assertTrue({None, (0, 1), (1, 2), (1, 1)} <= set(seen))

    def test_far_numbers_of_turns_come_near_the_share(self):
        chance = random.Random(SEED + 7)
        compared = 0
        for _ in range(100):
            setting, talk = plan_of(chance, 5, 8)
            found = share(talk, setting)
            high = max((most_stalls(talk, setting, LARGE - back) or 0 for back in range(24)), default=0)
            if found is not None and high > 0:
                self.assertLess(abs(high * found[1] - found[0] * LARGE), 100 * found[1])
                compared += 1
        self.assertGreater(compared, 20)


class ValuesTest(unittest.TestCase):
    def test_lists_are_new_and_arguments_stay(self):
        for _ in range(2):
            path, order = first_stall(ROUNDS, CALM)
            self.assertEqual((path, order), ([1, 2], [0, 0]))
            path.append(5)
            order.clear()
        self.assertEqual((ROUNDS.ends(), len(ROUNDS), str(CALM)), ([0], 3, "4; off 2 0; off 2 0"))

    def test_arguments_by_their_names(self):
        self.assertEqual(first_stall(setting=CALM, talk=ROUNDS), first_stall(ROUNDS, CALM))
        self.assertEqual(fewest_stalls(turns=6, setting=CALM, talk=ROUNDS), 0)
        self.assertEqual(most_stalls(turns=6, setting=CALM, talk=ROUNDS), 3)
        self.assertEqual(share(setting=CALM, talk=ROUNDS), (1, 2))


if __name__ == "__main__":
    unittest.main()
