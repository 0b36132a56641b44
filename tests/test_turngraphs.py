"""Point 18: stations, arcs and witnesses, against a search that plays every row of edges in every order."""

import random
import unittest

from latewords.errors import NoArc
from latewords.settings import Policy, Setting
from latewords.talks import Talk
from latewords.turngraphs import TurnGraph
from tests.plans import graph_seen, some_plan, some_talk, turn_played
from tests.values import strange_values

SEED = 20261125
LARGE = 10 ** 18
# Endpoint 0 asks, in one write or in two; endpoint 1 answers, and all may begin anew or end.
ROUNDS = Talk(3, 0, [0], [(0, 1, 0, 2, "plain"), (1, 2, 0, 1, "plain"), (0, 2, 0, 4, "plain"), (2, 0, 1, 4, "plain")])


class GraphTest(unittest.TestCase):
    def assert_witnesses(self, talk, setting, fewest):
        graph = TurnGraph(talk, setting)
        for arc, many in fewest.items():
            found = graph.witness(arc)
            self.assertIsInstance(found, tuple)
            numbers, order = found
            (node, before, *quicks), (target, speaker, *after), stalls = arc
            self.assertEqual((len(numbers), len(order)), (many, many), arc)
            self.assertTrue(all(number in talk.useful() for number in numbers))
            at = node
            for number in numbers:
                self.assertEqual((talk[number][0], talk[number][2]), (at, speaker))
                at = talk[number][1]
            self.assertEqual(at, target)
            self.assertNotEqual(before, speaker)
            self.assertEqual(order[0], 0)
            self.assertTrue(all(clearings in (0, 1, 2) for clearings in order))
            writes = [talk[number][2:] for number in numbers]
            played = turn_played(setting, writes, quicks[1 - speaker], order)
            self.assertEqual(played, (stalls, after[1 - speaker]))
            self.assertEqual(after[speaker], quicks[speaker])

    def test_by_hand(self):
        # 4 bytes are full; 2 and then 1 leave a held rest, which only a timer ends.
        graph = TurnGraph(ROUNDS, Setting(4))
        first, asked, answered = (0, -1, 0, 0), (2, 0, 0, 0), (0, 1, 0, 0)
        self.assertEqual(graph.stations(), [first, answered, asked])
        self.assertEqual(graph.arcs(), [(first, asked, 0), (first, asked, 1), (answered, asked, 0),
                                        (answered, asked, 1), (asked, answered, 0)])
        self.assertEqual(graph.witness((first, asked, 0)), ([2], [0]))
        self.assertEqual(graph.witness((answered, asked, 1))[0], [0, 1])
        self.assertEqual(graph.witness((asked, answered, 0)), ([3], [0]))

    def test_the_quicks_fall(self):
        setting = Setting(4, Policy(quick=1), Policy(quick=2))
        stations = TurnGraph(ROUNDS, setting).stations()
        self.assertEqual(stations, [(0, -1, 1, 2), (0, 1, 0, 0), (0, 1, 0, 1), (2, 0, 0, 0), (2, 0, 1, 0), (2, 0, 1, 1)])
        self.assertIn(((0, -1, 1, 2), (2, 0, 1, 0), 0), TurnGraph(ROUNDS, setting).arcs())

    def test_no_conversation(self):
        for talk in (Talk(1, 0, [], []), Talk(2, 0, [], [(0, 1, 0, 1, "plain")]),
                     Talk(2, 0, [1], [(1, 0, 0, 1, "plain")])):
            graph = TurnGraph(talk, Setting(4))
            self.assertEqual((graph.stations(), graph.arcs()), ([], []))
            with self.assertRaises(NoArc):
                graph.witness(((0, -1, 0, 0), (1, 0, 0, 0), 0))

    def test_the_empty_conversation_alone(self):
        for edges in ([], [(0, 1, 0, 1, "plain")]):
            graph = TurnGraph(Talk(2, 0, [0], edges), Setting(4, Policy(quick=3), Policy(quick=1)))
            self.assertEqual((graph.stations(), graph.arcs()), ([(0, -1, 3, 1)], []))

    def test_stations_without_a_way_to_an_end_are_left_out(self):
        # After the first edge only the same endpoint goes on, so no turn ends there.
        talk = Talk(3, 0, [2], [(0, 1, 0, 1, "plain"), (1, 2, 0, 1, "plain")])
        graph = TurnGraph(talk, Setting(4))
        self.assertEqual(graph.stations(), [(0, -1, 0, 0), (2, 0, 0, 0)])
        # With quick 1 the second turn's quicks differ, and useless edges count for nothing.
        talk = Talk(4, 0, [2], talk.edges() + [(1, 3, 1, 1, "plain")])
        self.assertEqual(TurnGraph(talk, Setting(4)).stations(), [(0, -1, 0, 0), (2, 0, 0, 0)])

    def test_against_played_turns(self):
        chance = random.Random(SEED)
        arcs = 0
        for _ in range(500):
            setting, talk = some_plan(chance, most_nodes=4, most_edges=6)
            graph = TurnGraph(talk, setting)
            stations, fewest = graph_seen(talk, setting)
            self.assertEqual(graph.stations(), stations, (talk.edges(), setting))
            self.assertEqual(graph.arcs(), list(fewest), (talk.edges(), setting))
            self.assert_witnesses(talk, setting, fewest)
            arcs += len(fewest)
        self.assertGreater(arcs, 2000)

    def test_turns_of_several_writes(self):
        chance = random.Random(SEED + 1)
        both = 0
        for _ in range(60):
            nodes = chance.randint(3, 5)
            edges = [(index, index + 1, 0, chance.randint(1, 5), chance.choice(["plain", "plain", "more"]))
                     for index in range(nodes - 1)]
            edges += [(chance.randrange(nodes - 1), nodes - 1, 0, chance.randint(1, 5), "plain"),
                      (nodes - 1, 0, 1, chance.randint(1, 5), "plain")]
            talk = Talk(nodes, 0, [0, nodes - 1], edges)
            setting = Setting(chance.randint(2, 4), Policy(chance.choice(["partial", "all"]), quick=chance.randint(0, 2)),
                              Policy(every=chance.randint(0, 2), quick=chance.randint(0, 3)))
            stations, fewest = graph_seen(talk, setting)
            graph = TurnGraph(talk, setting)
            self.assertEqual((graph.stations(), graph.arcs()), (stations, list(fewest)))
            self.assert_witnesses(talk, setting, fewest)
            both += len({arc[:2] for arc in fewest}) < len(fewest)
        self.assertGreater(both, 10)

    def test_ascending_without_duplicates(self):
        chance = random.Random(SEED + 2)
        for _ in range(100):
            talk = some_talk(chance, 8, 12, 30)
            graph = TurnGraph(talk, Setting(chance.randint(1, 20), Policy(every=3, quick=4)))
            for found in (graph.stations(), graph.arcs()):
                self.assertEqual(found, sorted(set(found)))
            stations = graph.stations()
            for arc in graph.arcs():
                self.assertTrue(arc[0] in stations and arc[1] in stations and arc[2] in (0, 1))

    def test_large_numbers(self):
        edges = [(index // 2, index // 2 + 1, 0, LARGE - 7 * index, "plain") for index in range(10)]
        talk = Talk(6, 0, [0], edges + [(5, 0, 1, LARGE, "more"), (5, 0, 1, 1, "plain")])
        for size in (1, 7, LARGE // 3, LARGE):
            setting = Setting(size, Policy("partial", every=9, quick=4))
            graph = TurnGraph(talk, setting)
            self.assertTrue(graph.arcs())
            for arc in graph.arcs():
                self.assertIn(len(graph.witness(arc)[0]), (1, 5))
        grown = [(*edge[:3], edge[3] * 10 ** 17, edge[4]) for edge in ROUNDS.edges()]
        graph = TurnGraph(Talk(3, 0, [0], grown), Setting(4 * 10 ** 17))
        small = TurnGraph(ROUNDS, Setting(4))
        self.assertEqual((graph.stations(), graph.arcs()), (small.stations(), small.arcs()))


class NoArcTest(unittest.TestCase):
    def setUp(self):
        self.graph = TurnGraph(ROUNDS, Setting(4))

    def assert_none(self, value):
        with self.assertRaises(NoArc) as caught:
            self.graph.witness(value)
        self.assertIs(caught.exception.arc, value)

    def test_any_value(self):
        stations = self.graph.stations()
        first, answered, asked = stations
        for value in strange_values() + stations + [
                stations, self.graph.arcs(), (first, asked), (first, asked, 0, 0), [first, asked, 0],
                (list(first), asked, 0), (first, list(asked), 0), (first, asked, [0]), (first, asked, 2),
                (first, asked, -1), (first, asked, None), (first, asked, "0"), (asked, first, 0), (asked, asked, 0),
                (asked, answered, 1), (first, answered, 0), (first + (0,), asked, 0), (first, asked[:3], 0),
                ((0, -1, 0, 1), asked, 0), (None, None, 0), ROUNDS, Setting(4), self.graph]:
            with self.subTest(value=value):
                self.assert_none(value)

    def test_true_and_false_are_no_integers(self):
        for first, second, stalls in self.graph.arcs():
            self.assert_none((first, second, bool(stalls)))
            for place in range(4):
                for worth in (True, False):
                    if first[place] == worth:
                        self.assert_none((first[:place] + (worth,) + first[place + 1:], second, stalls))
                    if second[place] == worth:
                        self.assert_none((first, second[:place] + (worth,) + second[place + 1:], stalls))

    def test_the_error_is_no_other(self):
        with self.assertRaises(LookupError):
            self.graph.witness(None)


class ValuesTest(unittest.TestCase):
    def test_lists_are_new(self):
        graph = TurnGraph(ROUNDS, Setting(4))
        for ask in (graph.stations, graph.arcs, lambda: graph.witness(graph.arcs()[0])[0],
                    lambda: graph.witness(graph.arcs()[1])[1]):
            kept = list(ask())
            ask().clear()
            ask().append(None)
            self.assertEqual(ask(), kept)

    def test_arguments_by_their_names(self):
        graph = TurnGraph(setting=Setting(4), talk=ROUNDS)
        self.assertEqual(graph.arcs(), TurnGraph(ROUNDS, Setting(4)).arcs())
        self.assertEqual(graph.witness(arc=graph.arcs()[0]), graph.witness(graph.arcs()[0]))


if __name__ == "__main__":
    unittest.main()
