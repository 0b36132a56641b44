"""Point 17, and point 2 for talks."""

import itertools
import random
import unittest

from latewords.errors import BadPath, BadTalk, EndlessTurn
from latewords.talks import Talk
from tests.plans import is_path, paths_seen, some_talk, useful_seen
from tests.values import strange_values

SEED = 20261124
LARGE = 10 ** 18
TRIANGLE = [(0, 1, 0, 5, "plain"), (1, 2, 0, 3, "push"), (2, 0, 1, 7, "more"), (0, 2, 0, 1, "plain")]


def raised(kind, function, *rest, **more):
    """The error of a kind that a call raises."""
    try:
        function(*rest, **more)
    except kind as error:
        return error
    raise AssertionError(f"no {kind.__name__}")


class TalkTest(unittest.TestCase):
    def test_what_it_tells(self):
        talk = Talk(3, 0, [2, 1], TRIANGLE)
        self.assertEqual((talk.node_count, talk.first_node, talk.ends(), talk.edges()), (3, 0, [1, 2], TRIANGLE))
        self.assertEqual((len(talk), talk[0], talk[3]), (4, TRIANGLE[0], TRIANGLE[3]))
        self.assertEqual((Talk.MOST_NODES, Talk.MOST_EDGES, talk.MOST_NODES, talk.MOST_EDGES), (8, 12, 8, 12))
        self.assertEqual(talk.useful(), [0, 1, 2, 3])
        self.assertEqual(talk.conversation([0, 1]), [(0, 5, "plain"), (0, 3, "push")])
        self.assertEqual(list(talk.paths(2)), [[0, 1]])
        self.assertTrue([0, 1, 2, 3] in talk)

    def test_arguments_by_their_names(self):
        talk = Talk(edges=TRIANGLE, ends=[1], start=2, nodes=3)
        self.assertEqual((talk.node_count, talk.first_node, talk.ends(), talk.edges()), (3, 2, [1], TRIANGLE))
        self.assertEqual(talk.conversation(path=[2, 0]), talk.conversation([2, 0]))
        self.assertEqual(list(talk.paths(count=2)), [[2, 0]])

    def test_the_smallest_and_the_largest(self):
        talk = Talk(1, 0, [], [])
        self.assertEqual((talk.ends(), talk.edges(), talk.useful(), len(talk), list(talk.paths(0))), ([], [], [], 0, []))
        edges = [(index % 8, (index + 1) % 8, index % 2, LARGE, "plain") for index in range(12)]
        talk = Talk(8, 7, list(range(8)), edges)
        self.assertEqual((len(talk), talk.ends(), talk.edges()), (12, list(range(8)), edges))
        self.assertEqual(talk.useful(), list(range(12)))
        self.assertEqual(list(Talk(1, 0, [0], []).paths(0)), [[]])

    def test_equal_edges_are_allowed(self):
        talk = Talk(2, 0, [1], [(0, 1, 0, 1, "plain")] * 12)
        self.assertEqual(talk.useful(), list(range(12)))
        self.assertEqual(list(talk.paths(1)), [[index] for index in range(12)])

    def test_no_iteration_over_a_talk(self):
        with self.assertRaises(TypeError):
            list(Talk(3, 0, [1], TRIANGLE))

    def test_talks_are_not_compared(self):
        self.assertFalse(Talk(3, 0, [1], TRIANGLE) == Talk(3, 0, [1], TRIANGLE))

    def test_later_changes_have_no_effect(self):
        ends, edges = [1], list(TRIANGLE)
        talk = Talk(3, 0, ends, edges)
        ends.append(0)
        edges.clear()
        for _ in range(2):
            self.assertEqual((talk.ends(), talk.edges(), talk.useful()), ([1], TRIANGLE, [0, 1, 2, 3]))
            self.assertEqual((talk.conversation([0]), list(talk.paths(1)), len(talk)), ([(0, 5, "plain")], [[0]], 4))
            for given in (talk.ends(), talk.edges(), talk.useful(), talk.conversation([0]), *talk.paths(1)):
                given.append(9)
                given.reverse()
        given = ([1, 0], list(TRIANGLE))
        Talk(3, 0, *given)
        self.assertEqual(given, ([1, 0], TRIANGLE))


class WrongTest(unittest.TestCase):
    def assert_bad(self, index, *parts):
        self.assertEqual(raised(BadTalk, Talk, *parts).index, index, parts)

    def test_wrong_nodes(self):
        for value in strange_values() + [9, -1, 0]:
            if value in (1, 2) and value is not True:
                continue
            with self.subTest(value=value):
                self.assert_bad(None, value, 0, [0], [])
        for value in (1, 8):
            self.assertEqual(Talk(value, 0, [0], []).node_count, value)

    def test_wrong_starts(self):
        for value in strange_values() + [3, -1]:
            if value in (0, 1, 2) and not isinstance(value, bool):
                continue
            with self.subTest(value=value):
                self.assert_bad(None, 3, value, [0], [])

    def test_wrong_ends(self):
        for value in strange_values() + [[3], [-1], [0, 0], [0, 1, 0], [1, True], [False], (0,), {0}, {}, range(2)]:
            if value == [] or repr(value) == "[0]":
                continue
            with self.subTest(value=value):
                self.assert_bad(None, 3, 0, value, [])
        self.assert_bad(None, 3, 0, [False], [])
        self.assert_bad(None, 3, 0, [0, 1, True], [])

    def test_wrong_lists_of_edges(self):
        for value in strange_values() + [tuple(TRIANGLE), TRIANGLE[:1] * 13, [None] * 13]:
            if isinstance(value, list) and len(value) <= 12:
                continue
            with self.subTest(value=value):
                self.assert_bad(None, 3, 0, [1], value)

    def test_wrong_edges(self):
        good = (0, 1, 0, 5, "plain")
        wrong = [good[:4], good + (1,), list(good), (), (0, 1, 0, 5, "Plain"), (0, 1, 0, 5, None)]
        for place, values in enumerate(((3, -1), (3, -1), (2, -1), (0, LARGE + 1), ("", "plain "))):
            wrong.extend(good[:place] + (value,) + good[place + 1:] for value in values)
        wrong.extend((False, 1, 0, 5, "plain")[:place] + (True,) + good[place + 1:] for place in range(4))
        for place, value in itertools.product(range(5), strange_values()):
            fits = (value in (0, 1, 2), value in (0, 1, 2), value in (0, 1), value in (1, 2, 10), False)[place]
            if not fits or isinstance(value, bool):
                wrong.append(good[:place] + (value,) + good[place + 1:])
        for edge in wrong + strange_values():
            with self.subTest(edge=edge):
                self.assert_bad(0, 3, 0, [1], [edge])
                self.assert_bad(2, 3, 0, [1], TRIANGLE[:2] + [edge, None])
        self.assert_bad(11, 3, 0, [1], TRIANGLE[:1] * 11 + [None])

    def test_the_node_count_bounds_the_others(self):
        self.assert_bad(None, 2, 2, [], [])
        self.assert_bad(None, 2, 0, [2], [])
        self.assert_bad(1, 2, 0, [1], [(0, 1, 0, 1, "plain"), (0, 2, 0, 1, "plain")])

    def test_which_error_comes_first(self):
        loop, wrong = (0, 0, 1, 1, "plain"), (0, 5, 0, 1, "plain")
        self.assert_bad(None, 0, 0, [0], [wrong, loop])
        self.assert_bad(None, 1, 1, [0], [wrong, loop])
        self.assert_bad(None, 1, 0, [1], [wrong, loop])
        self.assert_bad(None, 1, 0, [0], [wrong] + [loop] * 12)
        self.assert_bad(1, 1, 0, [0], [loop, wrong, None])
        self.assertEqual(raised(EndlessTurn, Talk, 1, 0, [0], [loop]).endpoint, 1)

    def test_endless_turns(self):
        def pair(one, other):
            return [(0, 1, one, 1, "plain"), (1, 0, other, 1, "plain")]

        for endpoint in (0, 1):
            self.assertEqual(raised(EndlessTurn, Talk, 2, 0, [1], pair(endpoint, endpoint)).endpoint, endpoint)
            alone = [(1, 1, endpoint, 1, "plain")]
            self.assertEqual(raised(EndlessTurn, Talk, 2, 0, [0], alone).endpoint, endpoint)
            self.assertEqual(raised(EndlessTurn, Talk, 2, 0, [0], pair(0, 1) + alone).endpoint, endpoint)
            ring = [(index, (index + 1) % 8, endpoint, 1, "plain") for index in range(8)]
            self.assertEqual(raised(EndlessTurn, Talk, 8, 0, [], ring).endpoint, endpoint)
            self.assertEqual(len(Talk(8, 0, [], ring[:7])), 7)
            mixed = ring[:7] + [(7, 0, 1 - endpoint, 1, "plain")]
            self.assertEqual(len(Talk(8, 0, [], mixed)), 8)
        self.assertEqual(len(Talk(2, 0, [1], pair(0, 1) + pair(0, 1))), 4)
        self.assertEqual(raised(EndlessTurn, Talk, 2, 0, [1], pair(1, 1) + pair(0, 0)).endpoint, 0)
        self.assertEqual(raised(EndlessTurn, Talk, 2, 0, [1], pair(1, 1) + pair(0, 1)).endpoint, 1)

    def test_endless_turns_against_walks(self):
        chance = random.Random(SEED)
        counts = [0, 0, 0]
        for _ in range(600):
            nodes = chance.randint(1, 4)
            edges = [(chance.randrange(nodes), chance.randrange(nodes), chance.randint(0, 1), 1, "plain")
                     for _ in range(chance.randint(1, 6))]
            endless = []
            for endpoint in (0, 1):
                walks = {edge[1] for edge in edges if edge[2] == endpoint}
                for _ in range(nodes):
                    walks = {edge[1] for edge in edges if edge[2] == endpoint and edge[0] in walks}
                if walks:
                    endless.append(endpoint)
            if endless:
                self.assertEqual(raised(EndlessTurn, Talk, nodes, 0, [], edges).endpoint, endless[0], edges)
            else:
                Talk(nodes, 0, [], edges)
            counts[endless[0] if endless else 2] += 1
        self.assertGreater(min(counts), 50)


class PathTest(unittest.TestCase):
    def test_paths_against_all_lists(self):
        chance = random.Random(SEED + 1)
        many = 0
        for _ in range(300):
            talk = some_talk(chance)
            for count in range(5):
                found = list(talk.paths(count))
                self.assertEqual(found, paths_seen(talk, count), (talk.edges(), talk.ends(), talk.first_node))
                many += len(found)
        self.assertGreater(many, 1000)

    def test_two_used_by_turns(self):
        talk = Talk(2, 0, [0, 1], [(0, 1, 0, 1, "plain")] * 2 + [(1, 0, 1, 1, "plain")])
        one, other = iter(talk.paths(2)), iter(talk.paths(3))
        self.assertEqual([next(one), next(other), next(other), next(one)], [[0, 2], [0, 2, 0], [0, 2, 1], [1, 2]])
        self.assertEqual((list(one), list(other)), ([], [[1, 2, 0], [1, 2, 1]]))

    def test_a_path_that_is_spoilt_spoils_no_other(self):
        talk = Talk(2, 0, [0, 1], [(0, 1, 0, 1, "plain")] * 2 + [(1, 0, 1, 1, "plain")])
        seen = []
        for path in talk.paths(4):
            seen.append(list(path))
            path.clear()
        self.assertEqual(seen, paths_seen(talk, 4))
        self.assertEqual(len(seen), 4)

    def test_many_paths_are_not_made_at_once(self):
        edges = [(0, 1, 0, 1, "plain")] * 6 + [(1, 0, 1, 1, "plain")] * 6
        talk = Talk(2, 0, [0], edges)
        found = iter(talk.paths(8))
        self.assertEqual([next(found) for _ in range(3)], [[0, 6] * 4, [0, 6] * 3 + [0, 7], [0, 6] * 3 + [0, 8]])
        self.assertEqual(len(list(talk.paths(4))), 6 ** 4)

    def test_ways_that_lead_nowhere_take_no_time(self):
        edges = [(0, 1, 0, 1, "plain")] * 6 + [(1, 0, 1, 1, "plain")] * 5 + [(1, 2, 0, 1, "plain")]
        for ends, count in (([], 0), ([2], 6 * (30 ** 3))):
            talk = Talk(3, 0, ends, edges)
            self.assertEqual(sum(1 for _ in itertools.islice(talk.paths(8), 200)), min(count, 200))
        self.assertEqual(list(Talk(3, 0, [], edges).paths(8)), [])
        self.assertEqual(list(Talk(4, 0, [3], edges).paths(8)), [])
        self.assertEqual(list(Talk(3, 0, [1], edges).paths(8)), [])

    def test_a_start_that_is_an_end(self):
        talk = Talk(3, 2, [2], TRIANGLE)
        self.assertTrue([] in talk)
        self.assertEqual(talk.conversation([]), [])
        self.assertEqual([list(talk.paths(count)) for count in range(4)], [[[]], [], [[2, 3]], [[2, 0, 1]]])

    def test_no_ends(self):
        talk = Talk(3, 0, [], TRIANGLE)
        self.assertEqual((talk.useful(), [list(talk.paths(count)) for count in range(4)]), ([], [[]] * 4))
        self.assertFalse([] in talk)
        for path, index in (([], 0), ([0], 1), ([0, 1, 2], 3), ([1], 0)):
            self.assertEqual(raised(BadPath, talk.conversation, path).index, index)

    def test_useful_edges(self):
        edges = [(0, 1, 0, 1, "plain"), (1, 2, 0, 1, "plain"), (3, 1, 0, 1, "plain"), (1, 3, 1, 1, "plain"),
                 (0, 4, 0, 1, "plain"), (5, 1, 0, 1, "plain")]
        self.assertEqual(Talk(6, 0, [2], edges).useful(), [0, 1, 2, 3])
        self.assertEqual(Talk(6, 0, [2, 4], edges).useful(), [0, 1, 2, 3, 4])
        self.assertEqual(Talk(6, 0, [0], edges).useful(), [])
        self.assertEqual(Talk(6, 5, [1], edges).useful(), [2, 3, 5])

    def test_useful_edges_against_paths(self):
        chance = random.Random(SEED + 2)
        for _ in range(300):
            talk = some_talk(chance, 3, 5)
            # A path that holds an edge can be had with two ways of less edges than nodes beside it.
            seen = {number for count in range(6) for path in paths_seen(talk, count) for number in path}
            self.assertEqual(talk.useful(), sorted(seen))
            self.assertEqual(talk.useful(), useful_seen(talk))

    def test_in_with_any_value(self):
        talk = Talk(3, 0, [1], TRIANGLE)
        for value in strange_values() + [(0,), "0", (0, 1), TRIANGLE[0], TRIANGLE, [True], [False], [0.0], [-4], [4],
                                         [0, None], [[0]], [(0,)], {0: 0}, [0, 1], [1], talk]:
            if value == [0] and type(value[0]) is int:
                continue
            with self.subTest(value=value):
                self.assertIs(value in talk, False)
        for value in ([0], [0, 1, 2, 0], [3, 2, 0]):
            self.assertIs(value in talk, True)
        self.assertIs([0, 1, 2] * 5000 + [0] in talk, True)
        self.assertIs([0, 1, 2] * 5000 in talk, False)

    def test_in_against_all_lists(self):
        chance = random.Random(SEED + 3)
        for _ in range(60):
            talk = some_talk(chance, 3, 4)
            for count in range(5):
                for numbers in itertools.product(range(-1, len(talk) + 1), repeat=count):
                    is_one = all(0 <= number < len(talk) for number in numbers) and is_path(
                        talk.node_count, talk.first_node, talk.ends(), talk.edges(), numbers)
                    self.assertIs(list(numbers) in talk, is_one)


class ConversationTest(unittest.TestCase):
    def setUp(self):
        self.talk = Talk(3, 0, [1], TRIANGLE)

    def assert_bad(self, index, path):
        self.assertEqual(raised(BadPath, self.talk.conversation, path).index, index, path)

    def test_paths(self):
        chance = random.Random(SEED + 4)
        for _ in range(100):
            talk = some_talk(chance)
            for path in talk.paths(chance.randint(0, 6)):
                self.assertEqual(talk.conversation(path), [talk[number][2:] for number in path])

    def test_200_and_201_edges(self):
        path = [0, 1, 2] * 66 + [3, 2]
        talk = Talk(3, 0, [0], TRIANGLE)
        self.assertEqual(len(talk.conversation(path)), 200)
        for long in (path + [3, 2], path + [3], [None] * 201, [9] * 201):
            self.assertIsNone(raised(BadPath, talk.conversation, long).index)
        self.assertEqual(raised(BadPath, talk.conversation, path[:199]).index, 199)
        self.assertEqual(raised(BadPath, talk.conversation, path[:199] + [0]).index, 199)

    def test_values_that_are_no_lists(self):
        for value in strange_values() + [(0,), "0", 0, {0}, {0: 0}, range(1), self.talk]:
            if isinstance(value, list) and len(value) <= 200:
                continue
            with self.subTest(value=value):
                self.assert_bad(None, value)

    def test_wrong_items(self):
        for value in strange_values() + [1, 2, -1, -4, 4, 5]:
            if value in (0, 3) and type(value) is int:
                continue
            with self.subTest(value=value):
                self.assert_bad(0, [value])
                self.assert_bad(0, [value, 1])
        for value in strange_values() + [0, 2, 3, -3, 4]:
            if value == 1 and type(value) is int:
                continue
            with self.subTest(value=value):
                self.assert_bad(1, [0, value])
                self.assert_bad(1, [0, value, None])
        self.assert_bad(4, [0, 1, 2, 0, 0])

    def test_a_list_that_ends_too_early(self):
        for path in ([], [0, 1], [3], [0, 1, 2], [3, 2]):
            self.assert_bad(len(path), path)

    def test_an_edge_that_leads_nowhere_may_stand_there(self):
        talk = Talk(3, 0, [1], [(0, 1, 0, 1, "plain"), (0, 2, 0, 1, "plain")])
        self.assertEqual(raised(BadPath, talk.conversation, [1]).index, 1)
        self.assertEqual(raised(BadPath, talk.conversation, [1, 0]).index, 1)


if __name__ == "__main__":
    unittest.main()
