"""Points 2 and 10 over the whole program."""

import itertools
import unittest

from latewords import (conversations, cures, desk, gaps, outcomes, papers, roads, searches, settings, sizes, states,
                       talks, texts, turngraphs, worst)
from latewords.errors import BadWrite
from latewords.settings import Policy, Setting
from latewords.talks import Talk
from tests.values import picture, strange_values

SETTING = Setting(4, Policy("all", every=2, quick=1), Policy("partial", every=0, quick=2))
OTHER = Setting(3, Policy("off"))
WRITES = [(0, 5, "plain"), (0, 2, "more"), (0, 3, "plain"), (1, 3, "push"), (0, 1, "more")]
TALK = Talk(3, 0, [0, 2], [(0, 1, 0, 5, "plain"), (1, 0, 1, 3, "more"), (1, 2, 1, 4, "plain"), (2, 1, 0, 3, "push")])
STATE = states.TurnState(1, False, True, False, 0, 1)
TALK_TEXT = "talk 2 0\nends 1\n0 1 0 5 push"
GRAPH = turngraphs.TurnGraph(TALK, SETTING)
ARC = GRAPH.arcs()[1]


def spoil(value):
    """Change all that can be changed in what was returned."""
    if isinstance(value, list):
        for item in value:
            spoil(item)
        value.append("spoilt")
        value.reverse()
    elif isinstance(value, tuple):
        for item in value:
            spoil(item)
    elif isinstance(value, outcomes.Outcome):
        spoil(value.stalled)


def shown(value):
    """A value as a text, objects by what they tell."""
    if isinstance(value, Talk):
        return ("talk", texts.show_talk(value), value.useful())
    if isinstance(value, roads.Road):
        return ("road", picture(value))
    return repr(value)


# Each function and method that returns something, with arguments by their names, the ones without a default first.
CALLS = [
    (conversations.check, {"conversation": WRITES}, {}),
    (conversations.turns, {"conversation": WRITES}, {}),
    (conversations.normal_order, {"conversation": WRITES, "order": [0, 2, 1, 0, 0]}, {}),
    (settings.Policy, {}, {"hold": "all", "every": 2, "quick": 0}),
    (SETTING.changed, {"size": 5, "hold": "off"}, {"endpoint": None}),
    (roads.Road, {"setting": SETTING, "conversation": WRITES}, {}),
    (roads.Road(SETTING, WRITES).play, {}, {"order": "quick"}),
    (roads.Road(SETTING, WRITES).possible, {}, {}),
    (roads.Road(SETTING, WRITES).play().log, {}, {}),
    (roads.Road(SETTING, WRITES).play().way_from, {"endpoint": 1}, {}),
    (roads.Road(SETTING, WRITES).tried, {"function": lambda road: [road.do("write"), road.possible(), road.log()]}, {}),
    (searches.search, {"setting": SETTING, "conversation": WRITES}, {}),
    (states.TurnState, {}, {"rest": 0, "kept": False, "blocked": False, "stuck": False, "pending": 0, "quick": 0}),
    (states.written, {"setting": SETTING, "speaker": 0, "state": STATE, "length": 9}, {"mode": "plain"}),
    (states.cleared, {"setting": SETTING, "speaker": 0, "state": STATE}, {}),
    (states.ended, {"setting": SETTING, "speaker": 0, "state": STATE}, {}),
    (outcomes.Outcome, {}, {"stalls": 0, "segments": 0, "acknowledgments": 0, "stalled": ()}),
    (outcomes.outcome, {"setting": SETTING, "conversation": WRITES}, {"order": "quick"}),
    (outcomes.least, {"setting": SETTING, "conversation": WRITES}, {}),
    (outcomes.most, {"setting": SETTING, "conversation": WRITES}, {}),
    (outcomes.verdicts, {"setting": SETTING, "conversation": WRITES}, {}),
    (sizes.bands, {"setting": SETTING, "conversation": WRITES}, {}),
    (sizes.padding, {"setting": SETTING, "conversation": WRITES}, {"turn": 0}),
    (talks.Talk, {"nodes": 3, "start": 1, "ends": [2, 0], "edges": TALK.edges()}, {}),
    (TALK.ends, {}, {}), (TALK.edges, {}, {}), (TALK.useful, {}, {}),
    (TALK.conversation, {"path": [0, 1]}, {}),
    (lambda count: list(TALK.paths(count=count)), {"count": 4}, {}),
    (GRAPH.stations, {}, {}), (GRAPH.arcs, {}, {}), (GRAPH.witness, {"arc": ARC}, {}),
    (worst.first_stall, {"talk": TALK, "setting": SETTING}, {}),
    (worst.fewest_stalls, {"talk": TALK, "setting": SETTING, "turns": 7}, {}),
    (worst.most_stalls, {"talk": TALK, "setting": SETTING, "turns": 10 ** 18}, {}),
    (worst.share, {"talk": TALK, "setting": SETTING}, {}),
    (papers.stall_paper, {"talk": TALK, "setting": SETTING}, {}),
    (papers.never_paper, {"talk": cures.changed_talk(TALK, [0, 1, 2, 3], "push"), "setting": OTHER}, {}),
    (papers.share_paper, {"talk": TALK, "setting": SETTING}, {}),
    (papers.holds, {"talk": TALK, "setting": SETTING, "paper": papers.share_paper(TALK, SETTING)}, {}),
    (papers.holds, {"talk": TALK, "setting": SETTING, "paper": papers.stall_paper(TALK, SETTING)}, {}),
    (cures.cure, {"setting": SETTING, "conversation": WRITES}, {"mode": "push"}),
    (cures.cure_talk, {"talk": TALK, "setting": SETTING}, {"mode": "push"}),
    (cures.changed_conversation, {"conversation": WRITES, "choice": [4, 0, 4], "mode": "push"}, {}),
    (cures.changed_talk, {"talk": TALK, "choice": [1, 1], "mode": "plain"}, {}),
    (gaps.gap, {"talk": TALK, "one": SETTING, "other": OTHER}, {"order": "quick"}),
    (gaps.gap, {"talk": TALK, "one": OTHER, "other": SETTING}, {"order": "quick"}),
    (gaps.gap_holds, {"talk": TALK, "one": SETTING, "other": OTHER, "answer": gaps.gap(TALK, SETTING, OTHER)},
     {"order": "quick"}),
    (texts.show_conversation, {"conversation": WRITES}, {}),
    (texts.read_conversation, {"text": "0 5; 1 7 more"}, {}),
    (texts.read_policy, {"text": "all 2 0"}, {}),
    (texts.read_setting, {"text": "4; all 2 0; off 1 3"}, {}),
    (texts.show_talk, {"talk": TALK}, {}),
    (texts.read_talk, {"text": TALK_TEXT}, {}),
    (desk.Desk().say, {"row": "names"}, {}),
]
# Each function and class that takes a conversation, with what else it takes: right, and wrong.
TAKING = [
    (conversations.check, {}, {}),
    (conversations.turns, {}, {}),
    (conversations.normal_order, {"order": "quick"}, {"order": None}),
    (roads.Road, {"setting": SETTING}, {"setting": None}),
    (searches.search, {"setting": SETTING}, {"setting": None}),
    (outcomes.outcome, {"setting": SETTING, "order": "slow"}, {"setting": None, "order": "fast"}),
    (outcomes.least, {"setting": SETTING}, {"setting": None}),
    (outcomes.most, {"setting": SETTING}, {"setting": None}),
    (outcomes.verdicts, {"setting": SETTING}, {"setting": None}),
    (sizes.bands, {"setting": SETTING}, {"setting": None}),
    (sizes.padding, {"setting": SETTING, "turn": 0}, {"setting": None, "turn": True}),
    (cures.cure, {"setting": SETTING, "mode": "push"}, {"setting": None, "mode": "plain"}),
    (cures.changed_conversation, {"choice": [], "mode": "push"}, {"choice": [True, -1], "mode": None}),
    (texts.show_conversation, {}, {}),
]
LONG = (0, 10 ** 18, "plain")


class CallsTest(unittest.TestCase):
    def test_a_first_answer_that_is_spoilt(self):
        for function, needed, defaults in CALLS:
            with self.subTest(function=function):
                before = [shown(value) for value in needed.values()]
                first = function(**needed, **defaults)
                kept = shown(first)
                spoil(first)
                self.assertEqual(shown(function(**needed, **defaults)), kept)
                self.assertEqual([shown(value) for value in needed.values()], before)

    def test_by_names_in_another_order_and_without_defaults(self):
        for function, needed, defaults in CALLS:
            with self.subTest(function=function):
                kept = shown(function(**needed, **defaults))
                self.assertEqual(shown(function(**needed)), kept)
                every = {**needed, **defaults}
                for names in itertools.islice(itertools.permutations(every), 30):
                    self.assertEqual(shown(function(**{name: every[name] for name in names})), kept)

    def test_equal_arguments_give_equal_values(self):
        again = Setting(4, Policy("all", every=2, quick=1), Policy("partial", every=0, quick=2))
        for function, needed, defaults in CALLS:
            if "setting" in needed and needed["setting"] == again:
                self.assertEqual(shown(function(**{**needed, "setting": again})), shown(function(**needed)))

    def test_the_same_settings_and_talks_after_all(self):
        self.assertEqual(repr(SETTING), "Setting(4, Policy('all', every=2, quick=1), Policy('partial', every=0, quick=2))")
        self.assertEqual(texts.show_talk(TALK), "talk 3 0\nends 0 2\n0 1 0 5\n1 0 1 3 more\n1 2 1 4\n2 1 0 3 push")


class NoConversationTest(unittest.TestCase):
    def assert_bad(self, index, value):
        for function, right, wrong in TAKING:
            for others in (right, wrong):
                with self.subTest(function=function, value=value), self.assertRaises(BadWrite) as caught:
                    function(conversation=value, **others)
                self.assertEqual(caught.exception.index, index)

    def test_any_value(self):
        for value in strange_values() + [tuple(WRITES), "0 5", {0: WRITES[0]}, TALK, SETTING, TALK.paths(2)]:
            if value == [] or value == [(0, 1, "plain")]:
                continue
            self.assert_bad(0 if isinstance(value, list) and len(value) <= 200 else None, value)

    def test_too_many_writes(self):
        self.assert_bad(None, [LONG] * 201)
        self.assert_bad(None, [None] * 201)
        self.assert_bad(199, [LONG] * 199 + [None])

    def test_wrong_writes_beside_what_is_too_long(self):
        for value in strange_values():
            if value == (0, 1, "plain"):
                continue
            self.assert_bad(2, [LONG, LONG, value, None])
            self.assert_bad(9, [LONG] * 9 + [value])

    def test_wrong_parts_of_a_write(self):
        for place, value in itertools.product(range(3), strange_values()):
            fits = (value in (0, 1), value in (1, 2, 10), False)[place] and not isinstance(value, bool)
            if not fits:
                self.assert_bad(0, [LONG[:place] + (value,) + LONG[place + 1:]])
        for write in ((2, 1, "plain"), (-1, 1, "plain"), (0, 0, "plain"), (0, 10 ** 18 + 1, "plain"), (0, 1, "Push"),
                      (0, 1), (0, 1, "plain", 0), [0, 1, "plain"], (True, 1, "plain"), (0, True, "plain")):
            self.assert_bad(1, [LONG, write])

    def test_what_the_calls_would_say_otherwise(self):
        # With a conversation, each of the wrong arguments that the document speaks of has its own error.
        for function, right, wrong in TAKING:
            function(conversation=WRITES, **right)


if __name__ == "__main__":
    unittest.main()
