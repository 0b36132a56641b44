"""Point 23: texts written and read, and each text with something otherwise."""

import random
import unittest

from latewords.conversations import MODES
from latewords.errors import BadTalk, BadText, BadWrite, EndlessTurn
from latewords.settings import Policy, Setting
from latewords.talks import Talk
from latewords.texts import (read_conversation, read_policy, read_setting, read_talk, show_conversation, show_talk)
from tests.cases import some_case, some_policy
from tests.plans import some_talk
from tests.values import strange_values

SEED = 20261130
LARGE = 10 ** 18
TALK = "talk 2 0\nends 1\n0 1 0 5 push"
SIGNS = "019 ;-+\npqx."


def parts_of(talk):
    return (talk.node_count, talk.first_node, talk.ends(), talk.edges())


def same_text_shown(read, text):
    """What a text is shown as after it was read, or the line at which it is wrong."""
    try:
        found = read(text)
    except BadText as error:
        return error.line
    if isinstance(found, Talk):
        return show_talk(found)
    return show_conversation(found) if isinstance(found, list) else str(found)


def changes_of(chance, text):
    """The text with one character otherwise, left out, doubled or put in, and likewise with its words."""
    for at in range(len(text)):
        yield text[:at] + text[at + 1:]
        yield text[:at] + text[at] + text[at:]
        yield text[:at] + chance.choice(SIGNS) + text[at + 1:]
        yield text[:at] + chance.choice(SIGNS) + text[at:]
    yield text + chance.choice(SIGNS)
    words = text.split(" ")
    for at in range(len(words)):
        yield " ".join(words[:at] + words[at + 1:])
        yield " ".join(words[:at] + words[at:at + 1] * 2 + words[at + 1:])
        yield " ".join(words[:at] + [chance.choice(["0", "1", "push", "more", "plain", "x", "", "00", "-1"])] + words[at + 1:])


class TextsTest(unittest.TestCase):
    def assert_bad(self, read, text, line=1):
        with self.assertRaises(BadText) as caught:
            read(text)
        self.assertEqual(caught.exception.line, line, text)

    def assert_no_strings(self, read):
        for value in strange_values() + [b"0 5", ["0 5"], ("0 5",)]:
            if not isinstance(value, str):
                with self.subTest(value=value):
                    self.assert_bad(read, value, None)

    def assert_one_text_for_each(self, read, texts):
        """A text with something otherwise is wrong, or writes something that is shown as this very text."""
        chance = random.Random(SEED)
        wrong = 0
        for text in texts:
            for other in changes_of(chance, text):
                found = same_text_shown(read, other)
                if found != 1:
                    self.assertEqual(found, other)
                wrong += found == 1
        self.assertGreater(wrong, 100)


class ConversationTest(TextsTest):
    def test_by_hand(self):
        for text, conversation in (("", []), ("0 5", [(0, 5, "plain")]), ("1 7 more", [(1, 7, "more")]),
                                   ("0 5; 1 7 more; 0 10 push", [(0, 5, "plain"), (1, 7, "more"), (0, 10, "push")]),
                                   ("1 1000000000000000000", [(1, LARGE, "plain")])):
            self.assertEqual(show_conversation(conversation), text)
            self.assertEqual(read_conversation(text), conversation)

    def test_read_back(self):
        chance = random.Random(SEED)
        for _ in range(200):
            _, conversation = some_case(chance, 9)
            text = show_conversation(conversation)
            found = read_conversation(text)
            self.assertEqual((found, show_conversation(found)), (conversation, text))
            self.assertTrue(all(type(write) is tuple for write in found))

    def test_texts_otherwise(self):
        chance = random.Random(SEED + 1)
        self.assert_one_text_for_each(read_conversation, [show_conversation(some_case(chance)[1]) for _ in range(60)])

    def test_wrong_texts(self):
        for text in (" ", "\n", ";", "; ", "0", "0 ", " 0 5", "0 5 ", "0  5", "0 5;1 7", "0 5;  1 7", "0 5 ; 1 7", "0 5; ",
                     "; 0 5", "0 5; ; 1 7", "0 5;", "0 5\n", "\n0 5", "0 5;\n1 7", "0 5\n; 1 7", "0 5; 1 7\n", "0 5 plain",
                     "0 5 Push", "0 5 pushx", "0 5 push more", "0 5 push ", "0 5  push", "push", "0 push", "0 5; push",
                     "2 5", "-1 5", "+0 5", "00 5", "01 5", "0 05", "0 00", "0 0", "0 -5", "0 +5", "0 5.0", "0 5e3", "0 0x5",
                     "0 1_000", "0 1000000000000000001", "a 5", "0 a", "0,5", "(0, 5)", "0\t5", "0 5;\t1 7"):
            with self.subTest(text=text):
                self.assert_bad(read_conversation, text)

    def test_long_texts(self):
        writes = [(index % 2, LARGE - index, MODES[index % 3]) for index in range(200)]
        text = show_conversation(writes)
        self.assertEqual(read_conversation(text), writes)
        self.assert_bad(read_conversation, text + "; 0 1")
        self.assertEqual(read_conversation("; ".join(["1 1"] * 200)), [(1, 1, "plain")] * 200)
        self.assert_bad(read_conversation, "; ".join(["1 1"] * 201))
        for digits in (19, 20, 40, 41, 4000, 4300, 4301, 6000):
            self.assert_bad(read_conversation, "0 " + "9" * digits)
            self.assert_bad(read_conversation, "9" * digits + " 1")

    def test_no_strings(self):
        self.assert_no_strings(read_conversation)

    def test_only_conversations_are_shown(self):
        for value in strange_values() + [[(0, 1, "plain")] * 201]:
            if value == [] or value == [(0, 1, "plain")]:
                continue
            with self.subTest(value=value), self.assertRaises(BadWrite) as caught:
                show_conversation(value)
            self.assertEqual(caught.exception.index, 0 if isinstance(value, list) and len(value) <= 200 else None)

    def test_values(self):
        given = [(0, 5, "plain")]
        self.assertEqual(show_conversation(conversation=given), "0 5")
        self.assertEqual(given, [(0, 5, "plain")])
        read_conversation("0 5").clear()
        read_conversation("").append(1)
        self.assertEqual((read_conversation(text="0 5"), read_conversation("")), (given, []))


class PolicyTest(TextsTest):
    def test_each_policy(self):
        for hold in Policy.HOLDS:
            for every in range(10):
                for quick in range(5):
                    policy = Policy(hold, every=every, quick=quick)
                    self.assertEqual(read_policy(str(policy)), policy)
        self.assertEqual(read_policy(text="all 2 0"), Policy())

    def test_texts_otherwise(self):
        self.assert_one_text_for_each(read_policy, ["all 2 0", "off 9 4", "partial 0 1"])

    def test_wrong_texts(self):
        for text in ("", " ", "\n", "all", "all 2", "all 2 0 0", " all 2 0", "all 2 0 ", "all  2 0", "all 2  0", "all 2 0\n",
                     "\nall 2 0", "all\n2 0", "all 2\n0", "All 2 0", "none 2 0", "all 10 0", "all 2 5", "all -1 0", "all +2 0",
                     "all 02 0", "all 2 00", "all 2 x", "2 0 all", "all, 2, 0", "all 2 " + "1" * 41, "all " + "9" * 5000 + " 0",
                     "Policy('all', every=2, quick=0)", "4; all 2 0"):
            with self.subTest(text=text):
                self.assert_bad(read_policy, text)

    def test_no_strings(self):
        self.assert_no_strings(read_policy)
        for value in (Policy(), Setting(4)):
            self.assert_bad(read_policy, value, None)


class SettingTest(TextsTest):
    def test_read_back(self):
        chance = random.Random(SEED + 2)
        for _ in range(200):
            setting = Setting(chance.choice([1, 9, 10, LARGE, chance.randint(1, LARGE)]), some_policy(chance), some_policy(chance))
            self.assertEqual(read_setting(str(setting)), setting)
        self.assertEqual(read_setting(text="4; all 2 0; off 1 3"), Setting(4, Policy(), Policy("off", every=1, quick=3)))

    def test_texts_otherwise(self):
        self.assert_one_text_for_each(read_setting, ["4; all 2 0; off 1 3", "1000000000000000000; partial 9 4; all 0 0"])

    def test_wrong_texts(self):
        good = "4; all 2 0; off 1 3"
        for text in ("", " ", "\n", "4", "4; all 2 0", good + "; off 1 3", good + "; ", " " + good, good + " ", good + "\n",
                     "\n" + good, "4;\nall 2 0; off 1 3", "4\n; all 2 0; off 1 3", "0; all 2 0; off 1 3", "04; all 2 0; off 1 3",
                     "-4; all 2 0; off 1 3", "+4; all 2 0; off 1 3", "1000000000000000001; all 2 0; off 1 3",
                     "4;all 2 0; off 1 3", "4;  all 2 0; off 1 3", "4 ; all 2 0; off 1 3", "4; all 2 0 ; off 1 3",
                     "4; all 2 0; off 1 5", "4; all 2 0; off 10 3", "4; all 2; off 1 3", "4; all 2 0; of 1 3",
                     "4, all 2 0, off 1 3", "x; all 2 0; off 1 3", "; all 2 0; off 1 3", "1" * 41 + "; all 2 0; off 1 3",
                     "4; all 2 0; all 2 " + "0" * 6000, "Setting(4, Policy(), Policy())"):
            with self.subTest(text=text):
                self.assert_bad(read_setting, text)

    def test_no_strings(self):
        self.assert_no_strings(read_setting)


class TalkTest(TextsTest):
    def test_by_hand(self):
        talk = Talk(2, 0, [1], [(0, 1, 0, 5, "push")])
        self.assertEqual(show_talk(talk), TALK)
        self.assertEqual(parts_of(read_talk(TALK)), parts_of(talk))
        self.assertEqual(show_talk(Talk(1, 0, [], [])), "talk 1 0\nends")
        self.assertEqual(parts_of(read_talk("talk 1 0\nends")), (1, 0, [], []))
        text = "talk 8 7\nends 0 3 7\n0 1 1 1000000000000000000\n0 1 0 7 more\n0 1 1 1000000000000000000"
        talk = Talk(8, 7, [7, 0, 3], [(0, 1, 1, LARGE, "plain"), (0, 1, 0, 7, "more"), (0, 1, 1, LARGE, "plain")])
        self.assertEqual(show_talk(talk), text)
        self.assertEqual(parts_of(read_talk(text)), parts_of(talk))
        self.assertEqual(read_talk("talk 3 0\nends 2 0").ends(), [0, 2])

    def test_read_back(self):
        chance = random.Random(SEED + 3)
        for _ in range(200):
            talk = some_talk(chance, 8, 12, LARGE)
            self.assertEqual(parts_of(read_talk(show_talk(talk))), parts_of(talk))

    def test_first_wrong_lines(self):
        for text, line in (
                ("", 1), ("\n", 1), ("talk", 1), ("talk 2", 1), ("talk 2 0", 2), ("talk 2 0 1", 1), ("talk 2 0 1\nends", 1),
                ("talk 2 0\n", 2), ("talk 2 0\n\n", 2), ("talk 2 0\nends\n", 3), ("talk 2 0\nends 1\n0 1 0 5\n", 4),
                ("\n" + TALK, 1), (" " + TALK, 1), (TALK + " ", 3), (TALK + "\n\n", 4), ("talk  2 0\nends 1", 1),
                ("talk 2 0 \nends 1", 1), ("talk 2 0\n ends 1", 2), ("talk 2 0\nends 1 ", 2), ("talk 2 0\nends  1", 2),
                ("talk 2 0\nends ", 2), ("talk 2 0\nend 1", 2), ("talk 2 0\n0 1 0 5", 2), ("Talk 2 0\nends 1", 1),
                ("talk 2 0\nends 1,2", 2), ("talk 2 0\nends x", 2), ("talk x 0\nends x", 1), ("talk 02 0\nends", 1),
                ("talk 2 00\nends", 1), ("talk -2 0\nends", 1), ("talk +2 0\nends", 1), ("talk 2 0\nends 01", 2),
                ("talk 2 0\nends\n0 1 0", 3), ("talk 2 0\nends\n0 1 0 5 push more", 3), ("talk 2 0\nends\n0 1 0 5 plain", 3),
                ("talk 2 0\nends\n0 1 0 5 Push", 3), ("talk 2 0\nends\n0 1 0 5 ", 3), ("talk 2 0\nends\n0 1 0  5", 3),
                ("talk 2 0\nends\n0 1 0 05", 3), ("talk 2 0\nends\n0 1 0 -5", 3), ("talk 2 0\nends\n0 1 0 push", 3),
                ("talk 2 0\nends\n0 1 0 5\nx\n", 4), ("talk 2 0\nends\n0 1 0 5\n0 1 0 5 x\nx", 4), ("ends 1\ntalk 2 0", 1),
                ("talk 2 0\nends\n0 1 0 5; 0 1 0 5", 3), ("talk 2 0\nends\n\n0 1 0 5", 3), ("talk 2 0;\nends", 1)):
            with self.subTest(text=text):
                self.assert_bad(read_talk, text, line)

    def test_40_and_41_digits(self):
        most, more = "9" * 40, "9" * 41
        for digits in (more, "1" + "0" * 40, "9" * 4301, "1" * 6000):
            self.assert_bad(read_talk, f"talk {digits} 0\nends", 1)
            self.assert_bad(read_talk, f"talk 2 {digits}\nends", 1)
            self.assert_bad(read_talk, f"talk 2 0\nends {digits}", 2)
            for place in range(4):
                words = ["0", "1", "0", "5"]
                words[place] = digits
                self.assert_bad(read_talk, f"talk 2 0\nends\n0 1 0 5\n{' '.join(words)}", 4)
        for text, index in ((f"talk {most} 0\nends", None), (f"talk 2 {most}\nends", None), (f"talk 2 0\nends {most}", None),
                            (f"talk 2 0\nends\n{most} 1 0 5", 0), (f"talk 2 0\nends\n0 1 0 5\n0 1 0 {most}", 1)):
            with self.subTest(text=text), self.assertRaises(BadTalk) as caught:
                read_talk(text)
            self.assertEqual(caught.exception.index, index)

    def test_texts_that_write_no_talk(self):
        for text, index in (("talk 0 0\nends", None), ("talk 9 0\nends", None), ("talk 2 2\nends", None),
                            ("talk 2 0\nends 2", None), ("talk 2 0\nends 1 1", None),
                            ("talk 2 0\nends" + "\n0 1 0 5" * 13, None), ("talk 2 0\nends\n0 2 0 5", 0),
                            ("talk 2 0\nends\n0 1 0 5\n0 1 2 5", 1), ("talk 2 0\nends\n0 1 0 0", 0),
                            ("talk 2 0\nends\n0 1 0 5\n0 1 0 5\n0 1 0 1000000000000000001 more", 2)):
            with self.subTest(text=text), self.assertRaises(BadTalk) as caught:
                read_talk(text)
            self.assertEqual(caught.exception.index, index)
            # A wrong line, however late, comes first.
            self.assert_bad(read_talk, text + "\n0 1 0 5 plain", text.count("\n") + 2)
        with self.assertRaises(EndlessTurn) as caught:
            read_talk("talk 2 0\nends\n0 1 1 5\n1 0 1 5")
        self.assertEqual(caught.exception.endpoint, 1)
        self.assertEqual(len(read_talk("talk 2 0\nends" + "\n0 1 0 5" * 12)), 12)

    def test_texts_otherwise(self):
        chance = random.Random(SEED + 4)
        wrong = 0
        for _ in range(40):
            text = show_talk(some_talk(chance))
            for other in changes_of(chance, text):
                try:
                    found = same_text_shown(read_talk, other)
                except (BadTalk, EndlessTurn):
                    continue
                if isinstance(found, int):
                    lines = other.split("\n")
                    self.assertTrue(found <= max(len(lines), 2))
                    # Up to the wrong line nothing is wrong.
                    wrong += 1
                else:
                    # The ends may be written in any order, but are shown ascending.
                    self.assertEqual([sorted(line.split(" ")) if line.startswith("ends") else line
                                      for line in found.split("\n")],
                                     [sorted(line.split(" ")) if line.startswith("ends") else line
                                      for line in other.split("\n")])
        self.assertGreater(wrong, 500)

    def test_no_strings(self):
        self.assert_no_strings(read_talk)
        self.assert_bad(read_talk, Talk(1, 0, [], []), None)

    def test_arguments_by_their_names(self):
        self.assertEqual(show_talk(talk=read_talk(text=TALK)), TALK)


if __name__ == "__main__":
    unittest.main()
