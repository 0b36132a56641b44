"""Point 20: papers, and each paper with one thing otherwise against a judge that follows the point word by word."""

import random
import unittest
from math import gcd

from latewords.conversations import normal_order
from latewords.errors import BadOrder
from latewords.outcomes import outcome
from latewords.papers import holds, never_paper, share_paper, stall_paper
from latewords.settings import Policy, Setting
from latewords.states import TurnState, cleared, ended, written
from latewords.talks import Talk
from latewords.turngraphs import TurnGraph
from latewords.worst import first_stall, share
from tests.plans import some_plan, some_talk, useful_seen
from tests.values import strange_values

SEED = 20261127
LARGE = 10 ** 18
CALM = Setting(4, Policy("off"))
ROUNDS = Talk(2, 0, [0], [(0, 1, 0, 4, "plain"), (0, 1, 0, 1, "more"), (1, 0, 1, 4, "plain")])
QUIET = Talk(2, 0, [0], [(0, 1, 0, 4, "plain"), (0, 1, 0, 1, "plain"), (1, 0, 1, 4, "push")])


def is_number(value, low, high):
    return type(value) is int and low <= value <= high


class Judge:
    """Judges papers as point 20 says it."""

    def __init__(self, talk, setting):
        self.talk, self.setting = talk, setting
        self.useful = [talk[number] for number in useful_seen(talk)]

    def edges(self, node, endpoint):
        return [edge for edge in self.useful if edge[0] == node and edge[2] == endpoint]

    def after(self, edge, state, own_quick):
        state = written(self.setting, edge[2], state, edge[3], edge[4])
        return (edge[1], edge[2], state.rest, state.kept, state.blocked, state.stuck, state.pending, state.quick, own_quick)

    def opened(self, node, speaker, quicks):
        return [self.after(edge, TurnState(quick=quicks[1 - speaker]), quicks[speaker])
                for edge in self.edges(node, speaker)]

    def is_position(self, item):
        if type(item) is not tuple or len(item) != 9:
            return False
        node, speaker, rest, kept, blocked, stuck, pending, quick, own_quick = item
        if not is_number(node, 0, self.talk.node_count - 1) or not is_number(speaker, 0, 1):
            return False
        own, listener = self.setting.policies[speaker], self.setting.policies[1 - speaker]
        if not is_number(rest, 0, self.setting.size - 1):
            return False
        if not all(type(word) is bool for word in (kept, blocked, stuck)):
            return False
        if not (is_number(quick, 0, listener.quick) and is_number(own_quick, 0, own.quick)):
            return False
        if not is_number(pending, 0, max(listener.every - 1, 0)):
            return False
        return all([
            not kept or rest > 0,
            blocked or rest == 0 or kept,
            not blocked or own.hold != "off",
            not stuck or (blocked and quick == 0),
            pending == 0 or quick == 0,
            pending == 0 or own.hold != "all" or stuck,
        ])

    def is_closed(self, item, items):
        node, speaker, *parts, own_quick = item
        state = TurnState(*parts)
        places = [state, cleared(self.setting, speaker, state),
                  cleared(self.setting, speaker, cleared(self.setting, speaker, state))]
        leads = [self.after(edge, place, own_quick) for place in places for edge in self.edges(node, speaker)]
        answers = self.edges(node, 1 - speaker)
        if answers or node in self.talk.ends():
            stalls, left = ended(self.setting, speaker, state)
            if stalls:
                return False
            quicks = (left, own_quick) if speaker == 1 else (own_quick, left)
            leads += self.opened(node, 1 - speaker, quicks)
        return all(lead in items for lead in leads)

    def never(self, items):
        if type(items) is not list or not all(self.is_position(item) for item in items):
            return False
        quicks = [policy.quick for policy in self.setting.policies]
        first = [lead for speaker in (0, 1) for lead in self.opened(self.talk.first_node, speaker, quicks)]
        known = set(items)
        return all(lead in known for lead in first) and all(self.is_closed(item, known) for item in known)

    def stall(self, path, order):
        if type(path) is not list or type(order) is not list or len(path) > 200 or path not in self.talk:
            return False
        writes = self.talk.conversation(path)
        try:
            normal_order(writes, order)
        except BadOrder:
            return False
        return outcome(self.setting, writes, order).stalls > 0

    def share(self, stalled, count, ring, heights):
        graph = TurnGraph(self.talk, self.setting)
        arcs = [repr(arc) for arc in graph.arcs()]
        if type(stalled) is not int or type(count) is not int or count < 1 or gcd(stalled, count) != 1:
            return False
        if type(ring) is not list or not ring or not all(repr(arc) in arcs for arc in ring):
            return False
        if any(one[1] != other[0] for one, other in zip(ring, ring[1:] + ring[:1])):
            return False
        if stalled * len(ring) != count * sum(arc[2] for arc in ring):
            return False
        if type(heights) is not list or not all(type(item) is tuple and len(item) == 2 for item in heights):
            return False
        if not all(type(worth) is int for _, worth in heights):
            return False
        if sorted(repr(station) for station, _ in heights) != sorted(map(repr, graph.stations())):
            return False
        height = dict(heights)
        return all(height[one] >= height[other] + stalls * count - stalled for one, other, stalls in graph.arcs())


def others(item):
    """A tuple with each of its parts otherwise."""
    for place, part in enumerate(item):
        values = [None, (part,), [part], str(part)]
        if isinstance(part, bool):
            values += [not part, int(part)]
        elif isinstance(part, int):
            values += [part + 1, part - 1, 0, 1, bool(part), -part]
        for value in values:
            yield item[:place] + (value,) + item[place + 1:]
    yield item[:-1]
    yield item + (0,)
    yield list(item)
    yield ()
    yield None


class JudgedTest(unittest.TestCase):
    def assert_judged(self, judge, paper, expected=None):
        """A paper is judged as by the judge, or as expected."""
        wanted = getattr(judge, paper[0])(*paper[1:]) if expected is None else expected
        self.assertIs(holds(judge.talk, judge.setting, paper), wanted, (judge.talk.edges(), judge.setting, paper))
        return wanted


class NeverTest(JudgedTest):
    def test_by_hand(self):
        found = never_paper(QUIET, CALM)
        self.assertEqual(found[0], "never")
        self.assertEqual(sorted(found[1]), [(0, 1, 0, False, False, False, 1, 0, 0), (1, 0, 0, False, False, False, 0, 0, 0),
                                            (1, 0, 0, False, False, False, 1, 0, 0)])
        self.assertIs(holds(QUIET, CALM, found), True)
        self.assertIsNone(never_paper(ROUNDS, CALM))

    def test_no_useful_edge(self):
        for talk in (Talk(1, 0, [], []), Talk(1, 0, [0], []), Talk(2, 0, [0], [(0, 1, 0, 1, "more")])):
            self.assertEqual(never_paper(talk, Setting(4)), ("never", []))
            self.assertIs(holds(talk, Setting(4), ("never", [])), True)
            self.assertIsNone(stall_paper(talk, Setting(4)))
            self.assertIsNone(share_paper(talk, Setting(4)))

    def test_exactly_one_of_two(self):
        chance = random.Random(SEED)
        counts = [0, 0]
        for _ in range(400):
            setting, talk = some_plan(chance, most_nodes=5, most_edges=7)
            never, stall = never_paper(talk, setting), stall_paper(talk, setting)
            self.assertEqual((never is None, stall is None).count(True), 1, (talk.edges(), setting))
            judge = Judge(talk, setting)
            self.assertTrue(self.assert_judged(judge, never or stall))
            counts[stall is None] += 1
        self.assertGreater(min(counts), 40)

    def test_full_talks(self):
        chance = random.Random(SEED + 1)
        found = 0
        for _ in range(40):
            talk = some_talk(chance, 8, 12, LARGE // 4)
            setting = Setting(LARGE // 9, Policy("partial", every=1, quick=4), Policy("all", every=1, quick=4))
            paper = never_paper(talk, setting) or stall_paper(talk, setting)
            self.assertIs(holds(talk, setting, paper), True)
            found += bool(talk.useful())
        self.assertGreater(found, 10)

    def quiet_plans(self, seed, count):
        chance = random.Random(seed)
        while count:
            setting, talk = some_plan(chance, most_nodes=4, most_edges=5)
            paper = never_paper(talk, setting)
            if paper is not None and len(paper[1]) <= 12:
                count -= 1
                yield chance, Judge(talk, setting), paper[1]

    def test_order_and_duplicates_do_not_count(self):
        for chance, judge, items in self.quiet_plans(SEED + 2, 30):
            self.assert_judged(judge, ("never", chance.sample(items, len(items)) + items), True)
            self.assert_judged(judge, ("never", items + items[:1]), True)
            for other in (tuple(items), {item: 1 for item in items}, set(items), None):
                self.assert_judged(judge, ("never", other), False)
            self.assert_judged(judge, ("never",), False)
            self.assert_judged(judge, ("never", items, []), False)
            self.assertIs(holds(judge.talk, judge.setting, ["never", items]), False)

    def test_a_position_less(self):
        fails = 0
        for _, judge, items in self.quiet_plans(SEED + 3, 60):
            for at in range(len(items)):
                fails += not self.assert_judged(judge, ("never", items[:at] + items[at + 1:]))
            self.assert_judged(judge, ("never", []), False)
        self.assertGreater(fails, 100)

    def test_a_position_otherwise(self):
        fails = stands = 0
        for _, judge, items in self.quiet_plans(SEED + 4, 40):
            for at, item in enumerate(items):
                for other in others(item):
                    # In the place of the position, and beside it.
                    fails += not self.assert_judged(judge, ("never", items[:at] + [other] + items[at + 1:]))
                    stands += self.assert_judged(judge, ("never", items + [other]))
        self.assertGreater(min(fails, stands), 100)

    def test_any_position_beside_the_others(self):
        # Each policy, so that each condition about a position is met and missed.
        chance = random.Random(SEED + 5)
        counts = [0, 0]
        for _ in range(60):
            hold, every, quick = chance.choice(Policy.HOLDS), chance.choice([0, 1, 2, 3]), chance.randint(0, 2)
            setting = Setting(chance.randint(1, 4), Policy(hold, every=every, quick=quick),
                              Policy(chance.choice(Policy.HOLDS), every=chance.choice([0, 1, 2, 3]), quick=quick))
            judge = Judge(Talk(2, 0, [], [(0, 1, 0, 1, "plain")]), setting)
            ending = Judge(Talk(2, 0, [0], [(0, 1, 0, 1, "plain")]), setting)
            for _ in range(150):
                item = (chance.randint(0, 1), chance.randint(0, 1), chance.randint(0, 4), chance.random() < 0.4,
                        chance.random() < 0.5, chance.random() < 0.4, chance.choice([0, 0, 1, 2, 3]),
                        chance.choice([0, 0, 0, 1, 2]), chance.randint(0, 2))
                counts[self.assert_judged(judge, ("never", [item]))] += 1
                self.assert_judged(ending, ("never", [item]))
        self.assertGreater(min(counts), 300)

    def test_any_position_in_a_talk(self):
        # Positions that no conversation comes to must be closed too.
        counts = [0, 0]
        for chance, judge, items in self.quiet_plans(SEED + 7, 60):
            size = judge.setting.size
            for _ in range(60):
                hold = chance.random() < 0.6
                item = (chance.randrange(judge.talk.node_count), chance.randint(0, 1), chance.randrange(size), hold,
                        chance.random() < 0.5, chance.random() < 0.3, chance.choice([0, 0, 1]), chance.choice([0, 0, 1]),
                        chance.choice([0, 0, 1]))
                counts[self.assert_judged(judge, ("never", items + [item]))] += 1
        self.assertGreater(min(counts), 100)

    def test_a_position_at_which_the_turn_stalls(self):
        # A kept rest at an end node, or where the other endpoint goes on.
        stuck = (1, 0, 1, True, False, False, 0, 0, 0)
        self.assertIs(holds(QUIET, CALM, ("never", never_paper(QUIET, CALM)[1] + [stuck])), False)
        alone = Talk(2, 0, [1], [(0, 1, 0, 1, "more")])
        self.assertIs(holds(alone, CALM, ("never", [stuck])), False)
        lonely = Talk(3, 0, [2], [(0, 1, 0, 1, "more"), (1, 2, 0, 3, "plain")])
        paper = never_paper(lonely, CALM)
        self.assertIn(stuck, paper[1])
        self.assertIs(holds(lonely, CALM, paper), True)


class StallTest(JudgedTest):
    def test_first_stalls(self):
        chance = random.Random(SEED + 8)
        for _ in range(100):
            setting, talk = some_plan(chance)
            found, paper = first_stall(talk, setting), stall_paper(talk, setting)
            self.assertEqual(paper, None if found is None else ("stall", *found))

    def test_paths_and_orders_otherwise(self):
        chance = random.Random(SEED + 9)
        counts = [0, 0]
        for _ in range(80):
            setting, talk = some_plan(chance)
            paper = stall_paper(talk, setting)
            if paper is None:
                continue
            judge = Judge(talk, setting)
            name, path, order = paper
            for at in range(len(path)):
                for number in (*range(-1, len(talk) + 1), None, True, False, "0"):
                    counts[self.assert_judged(judge, (name, path[:at] + [number] + path[at + 1:], order))] += 1
                for clearings in (0, 1, 2, 3, -1, None, True, False, "1"):
                    counts[self.assert_judged(judge, (name, path, order[:at] + [clearings] + order[at + 1:]))] += 1
                self.assert_judged(judge, (name, path[:at] + path[at + 1:], order))
                self.assert_judged(judge, (name, path, order[:at] + order[at + 1:]), False)
            for other in ("slow", "quick", tuple(order), None, order + [0]):
                self.assert_judged(judge, (name, path, other), False)
            for other in (tuple(path), None, path + [0], []):
                self.assert_judged(judge, (name, other, order))
            self.assertIs(holds(talk, setting, (name, path)), False)
            self.assertIs(holds(talk, setting, paper + (0,)), False)
            self.assertIs(holds(talk, setting, list(paper)), False)
        self.assertGreater(min(counts), 50)

    def test_paths_that_do_not_stall(self):
        self.assertIs(holds(ROUNDS, CALM, ("stall", [0, 2], [0, 0])), False)
        self.assertIs(holds(ROUNDS, CALM, ("stall", [], [])), False)
        self.assertIs(holds(ROUNDS, CALM, ("stall", [1], [0])), False)
        self.assertIs(holds(ROUNDS, CALM, ("stall", [1, 2], [0, 0])), True)

    def test_200_and_202_edges(self):
        self.assertIs(holds(ROUNDS, CALM, ("stall", [0, 2] * 99 + [1, 2], [0] * 200)), True)
        self.assertIs(holds(ROUNDS, CALM, ("stall", [0, 2] * 100, [0] * 200)), False)
        self.assertIs(holds(ROUNDS, CALM, ("stall", [0, 2] * 100 + [1, 2], [0] * 202)), False)

    def test_the_order_decides(self):
        setting = Setting(2, Policy(every=1))
        talk = Talk(3, 0, [2], [(0, 1, 0, 3, "plain"), (1, 2, 0, 1, "plain")])
        self.assertEqual([holds(talk, setting, ("stall", [0, 1], [0, count])) for count in (0, 1, 2)], [False, True, True])


class ShareTest(JudgedTest):
    def assert_share(self, talk, setting):
        found, paper = share(talk, setting), share_paper(talk, setting)
        if found is None:
            self.assertIsNone(paper)
        else:
            self.assertEqual((len(paper), paper[0], paper[1:3]), (5, "share", found))
            self.assertTrue(self.assert_judged(Judge(talk, setting), paper))
        return paper

    def test_against_the_share(self):
        chance = random.Random(SEED + 10)
        found = set()
        for _ in range(300):
            setting, talk = some_plan(chance, most_nodes=5, most_edges=8)
            paper = self.assert_share(talk, setting)
            found.add(paper and paper[1:3])
        self.assertTrue({None, (0, 1), (1, 2), (1, 1)} <= found)

    def test_full_talks(self):
        chance = random.Random(SEED + 11)
        for _ in range(40):
            talk = some_talk(chance, 8, 12, 30)
            setting = Setting(7, Policy("partial", every=9, quick=4), Policy(every=2, quick=4))
            paper = share_paper(talk, setting)
            self.assertTrue(paper is None or holds(talk, setting, paper) is True)

    def share_plans(self, seed, count):
        chance = random.Random(seed)
        while count:
            setting, talk = some_plan(chance, most_nodes=4, most_edges=6)
            paper = share_paper(talk, setting)
            if paper is not None and len(paper[4]) <= 8:
                count -= 1
                yield chance, Judge(talk, setting), paper

    def test_rings_otherwise(self):
        fails = stands = 0
        for chance, judge, (name, stalled, count, ring, heights) in self.share_plans(SEED + 12, 40):
            rest = (heights,)
            for turn in range(len(ring)):
                self.assert_judged(judge, (name, stalled, count, ring[turn:] + ring[:turn], *rest), True)
                fails += not self.assert_judged(judge, (name, stalled, count, ring[:turn] + ring[turn + 1:], *rest))
                fails += not self.assert_judged(judge, (name, stalled, count, ring[:turn] + ring[turn:turn + 1] * 2
                                                        + ring[turn + 1:], *rest))
                for arc in TurnGraph(judge.talk, judge.setting).arcs():
                    other = (name, stalled, count, ring[:turn] + [arc] + ring[turn + 1:], *rest)
                    stands += self.assert_judged(judge, other)
                    self.assert_judged(judge, (name, stalled, count, ring + [arc], *rest))
                one, two, stalls = ring[turn]
                for arc in ((one, two, 1 - stalls), (one, two, bool(stalls)), (two, one, stalls), (one, two), [one, two, stalls],
                            (list(one), two, stalls), (one, two[:1] + (bool(two[1]),) + two[2:], stalls), None, one):
                    self.assert_judged(judge, (name, stalled, count, ring[:turn] + [arc] + ring[turn + 1:], *rest))
            self.assert_judged(judge, (name, stalled, count, ring * 2, *rest), True)
            self.assert_judged(judge, (name, stalled, count, ring * 3, *rest), True)
            for other in ([], tuple(ring), None, [ring]):
                self.assert_judged(judge, (name, stalled, count, other, *rest), False)
        self.assertGreater(min(fails, stands), 40)

    def test_shares_otherwise(self):
        for _, judge, (name, stalled, count, *rest) in self.share_plans(SEED + 13, 40):
            for pair in ((stalled * 2, count * 2), (stalled * 3, count * 3), (-stalled, -count), (stalled, count + 1),
                         (stalled + 1, count), (stalled - 1, count), (stalled, -count), (stalled, 0), (0, 0), (0, 2),
                         (None, count), (stalled, None), (stalled, str(count))):
                if pair != (stalled, count):
                    self.assert_judged(judge, (name, *pair, *rest), False)
            self.assert_judged(judge, (name, bool(stalled), count, *rest), False)
            if count == 1:
                self.assert_judged(judge, (name, stalled, True, *rest), False)
            self.assertIs(holds(judge.talk, judge.setting, (name, stalled, count, *rest, [])), False)
            self.assertIs(holds(judge.talk, judge.setting, (name, stalled, count, rest[0])), False)
            self.assertIs(holds(judge.talk, judge.setting, [name, stalled, count, *rest]), False)

    def test_heights_otherwise(self):
        fails = stands = 0
        for chance, judge, (name, stalled, count, ring, heights) in self.share_plans(SEED + 14, 40):
            def judged(other, expected=None):
                return self.assert_judged(judge, (name, stalled, count, ring, other), expected)

            judged(chance.sample(heights, len(heights)), True)
            judged([(station, height + 5) for station, height in heights], True)
            judged([(station, height - 10 ** 30) for station, height in heights], True)
            for at, (station, height) in enumerate(heights):
                for more in (1, -1, 2, -2, count, -count, 10 ** 39, -10 ** 39):
                    found = judged(heights[:at] + [(station, height + more)] + heights[at + 1:])
                    fails, stands = fails + (not found), stands + found
                judged(heights[:at] + heights[at + 1:], False)
                judged(heights + [heights[at]], False)
                judged(heights[:at] + [heights[at - 1]] + heights[at + 1:], len(heights) == 1)
                for item in ((station, bool(height)), (station, None), (list(station), height), [station, height],
                             (station,), (station, height, 0), (station + (0,), height), None, station,
                             (station[:1] + (True,) + station[2:], height), (station[:2] + (False, False), height),
                             ((9, 9, 9, 9), height)):
                    judged(heights[:at] + [item] + heights[at + 1:], False)
            for other in (tuple(heights), dict(heights), None, [], [heights]):
                judged(other, False)
        self.assertGreater(min(fails, stands), 50)

    def test_a_ring_with_a_smaller_share(self):
        # Its heights would have to rise around the better ring.
        graph = TurnGraph(ROUNDS, CALM)
        calm = [arc for arc in graph.arcs() if arc[2] == 0 and -1 not in arc[0]]
        ring = sorted(calm, key=lambda arc: arc[0])
        for heights in ([(station, 0) for station in graph.stations()], share_paper(ROUNDS, CALM)[4]):
            self.assertIs(holds(ROUNDS, CALM, ("share", 0, 1, ring, heights)), False)


class ValuesTest(unittest.TestCase):
    def test_any_value(self):
        papers = [stall_paper(ROUNDS, CALM), never_paper(QUIET, CALM), share_paper(ROUNDS, CALM)]
        for value in strange_values() + ["stall", ("stall",), ("never",), ("share",), ("none",), ("Stall", [1, 2], [0, 0]),
                               (None, [1, 2], [0, 0]), ROUNDS, CALM, papers, (papers[0],), ((),), ("never", None),
                               ("stall", None, None), ("share", None, None, None, None), ("share", 0, 1, [], []),
                               ("never", [[]]), ("never", [()]), ("never", "x"), (["never"], []), ("never", [], [])]:
            for talk in (ROUNDS, QUIET):
                with self.subTest(value=value):
                    self.assertIs(holds(talk, CALM, value), False)

    def test_strange_parts(self):
        for value in strange_values():
            for paper in (stall_paper(ROUNDS, CALM), never_paper(QUIET, CALM), share_paper(ROUNDS, CALM)):
                talk = QUIET if paper[0] == "never" else ROUNDS
                for place in range(len(paper)):
                    other = paper[:place] + (value,) + paper[place + 1:]
                    same = repr(other) == repr(paper)
                    self.assertIs(holds(talk, CALM, other), same, other)

    def test_papers_of_other_talks_and_settings(self):
        self.assertIs(holds(QUIET, CALM, stall_paper(ROUNDS, CALM)), False)
        self.assertIs(holds(ROUNDS, CALM, never_paper(QUIET, CALM)), False)
        self.assertIs(holds(QUIET, CALM, share_paper(ROUNDS, CALM)), False)
        self.assertIs(holds(QUIET, CALM, share_paper(QUIET, CALM)), True)

    def test_lists_are_new_and_papers_stay(self):
        for function, talk in ((stall_paper, ROUNDS), (never_paper, QUIET), (share_paper, ROUNDS)):
            kept = repr(function(talk, CALM))
            paper = function(talk, CALM)
            self.assertIs(holds(talk, CALM, paper), True)
            self.assertEqual(repr(paper), kept)
            for part in paper:
                if isinstance(part, list):
                    part.clear()
            self.assertEqual(repr(function(talk, CALM)), kept)

    def test_arguments_by_their_names(self):
        self.assertEqual(stall_paper(setting=CALM, talk=ROUNDS), stall_paper(ROUNDS, CALM))
        self.assertEqual(never_paper(setting=CALM, talk=QUIET), never_paper(QUIET, CALM))
        self.assertEqual(share_paper(setting=CALM, talk=ROUNDS), share_paper(ROUNDS, CALM))
        self.assertIs(holds(paper=stall_paper(ROUNDS, CALM), setting=CALM, talk=ROUNDS), True)


if __name__ == "__main__":
    unittest.main()
