"""Points 24 and 25: the rows of a desk, its deeds and questions, and which error comes first."""

import random
import unittest

from latewords.cures import cure, cure_talk
from latewords.desk import Desk
from latewords.errors import BadOrder, BadRow, BadTalk, BadText, EndlessTurn, NoName, NothingDone, TooLong
from latewords.outcomes import least, most, outcome, verdicts
from latewords.settings import Policy, Setting
from latewords.sizes import bands
from latewords.talks import Talk
from latewords.texts import read_talk, show_conversation, show_talk
from latewords.worst import fewest_stalls, first_stall, most_stalls, share
from tests.cases import some_case
from tests.plans import some_talk
from tests.values import strange_values

SEED = 20261201
TALK = "talk 2 0\nends 0\n0 1 0 4\n0 1 0 1 more\n1 0 1 4"
ROWS = ("setting s 4; off 2 0; off 2 0", "words w 0 2; 0 1; 1 5 more", "words e", "talk t\n" + TALK)
# Each question, and each deed without a text, to be spoilt word by word.
SHORT = ("gone w", "undo", "show s", "stalls s w quick", "stalls s w 000", "least s w", "most s w", "verdicts s w",
         "bands s w", "first s t", "fewest s t 4", "greatest s t 4", "share s t", "cure s w push", "cure s t more", "names")


def told_desk(rows=ROWS):
    desk = Desk()
    for row in rows:
        assert desk.say(row) == "ok"
    return desk


class DeskTest(unittest.TestCase):
    def setUp(self):
        self.desk = told_desk()

    def assert_error(self, kind, row, field=None, desk=None):
        """A row raises an error and changes nothing."""
        desk = desk or self.desk
        before = self.picture(desk)
        with self.assertRaises(kind) as caught:
            desk.say(row)
        if kind is not NothingDone:
            (name,) = vars(caught.exception)
            self.assertEqual(getattr(caught.exception, name), field, row)
            self.assertIs(type(getattr(caught.exception, name)), type(field), row)
        self.assertEqual(self.picture(desk), before)

    def picture(self, desk):
        names = desk.say("names").split(" ")
        return [(name, desk.say(f"show {name}")) for name in names if name != "none"]


class DeedTest(DeskTest):
    def test_a_new_desk(self):
        desk = Desk()
        self.assertEqual(desk.say("names"), "none")
        self.assert_error(NothingDone, "undo", desk=desk)
        self.assert_error(NoName, "show a", "a", desk=desk)

    def test_names_and_texts(self):
        self.assertEqual(self.desk.say("names"), "e s t w")
        self.assertEqual(self.desk.say("show s"), "4; off 2 0; off 2 0")
        self.assertEqual(self.desk.say("show w"), "0 2; 0 1; 1 5 more")
        self.assertEqual(self.desk.say("show e"), "")
        self.assertEqual(self.desk.say("show t"), TALK)
        self.assertEqual(self.desk.say("talk abcdefgh\ntalk 2 1\nends 1 0"), "ok")
        self.assertEqual(self.desk.say("show abcdefgh"), "talk 2 1\nends 0 1")

    def test_names_are_ascending(self):
        for name in ("b", "ab", "aa", "z", "undo", "names", "talk", "a"):
            self.desk.say(f"words {name} 0 1")
        self.assertEqual(self.desk.say("names"), "a aa ab b e names s t talk undo w z")
        self.assertEqual(self.desk.say("gone undo"), "ok")
        self.assertEqual(self.desk.say("show talk"), "0 1")

    def test_a_name_told_anew_stands_for_one_thing(self):
        self.desk.say("words s 0 1")
        self.assertEqual((self.desk.say("names"), self.desk.say("show s")), ("e s t w", "0 1"))
        self.assert_error(NoName, "least s w", "s")
        self.desk.say("setting w 1; all 2 0; all 2 0")
        self.assertEqual(self.desk.say("least w s"), "0")
        self.desk.say("talk s\ntalk 1 0\nends 0")
        self.assertEqual(self.desk.say("fewest w s 0"), "0")
        self.desk.say("words s")
        self.assertEqual(self.desk.say("show s"), "")

    def test_gone(self):
        self.assertEqual(self.desk.say("gone w"), "ok")
        self.assertEqual(self.desk.say("names"), "e s t")
        for row in ("gone w", "show w", "least s w"):
            self.assert_error(NoName, row, "w")
        for name in ("e", "s", "t"):
            self.desk.say(f"gone {name}")
        self.assertEqual(self.desk.say("names"), "none")

    def test_undo_of_each_deed(self):
        before = self.picture(self.desk)
        for row in ("setting a 1; all 2 0; all 2 0", "setting s 1; all 2 0; all 2 0", "setting w 1; all 2 0; all 2 0",
                    "words a 0 1", "words w 0 1", "words w", "words s 0 1", "talk a\ntalk 1 0\nends", "talk t\ntalk 1 0\nends",
                    "talk s\ntalk 1 0\nends", "gone s", "gone w", "gone t", "gone e",
                    "setting s 4; off 2 0; off 2 0", "words e", "talk t\n" + TALK):
            with self.subTest(row=row):
                self.assertEqual(self.desk.say(row), "ok")
                self.assertEqual(self.desk.say("undo"), "ok")
                self.assertEqual(self.picture(self.desk), before)

    def test_undo_of_all_deeds(self):
        pictures = []
        desk = Desk()
        rows = ROWS + ("words w 0 9", "gone s", "words s 1 1", "gone s", "setting s 9; all 2 0; all 2 0", "words e", "gone e")
        for row in rows:
            pictures.append(self.picture(desk))
            desk.say(row)
        for picture in reversed(pictures):
            self.assertEqual(desk.say("undo"), "ok")
            self.assertEqual(self.picture(desk), picture)
        for _ in range(2):
            self.assert_error(NothingDone, "undo", desk=desk)
        self.assertEqual(desk.say("words a 0 1"), "ok")
        self.assertEqual((desk.say("undo"), desk.say("names")), ("ok", "none"))
        self.assert_error(NothingDone, "undo", desk=desk)

    def test_undo_of_a_deed_that_changed_nothing(self):
        self.desk.say("words w 0 2; 0 1; 1 5 more")
        self.desk.say("words w 0 2; 0 1; 1 5 more")
        self.desk.say("gone w")
        for shown in (True, True, True, False):
            self.assertEqual(self.desk.say("undo"), "ok")
            self.assertEqual("t" in self.desk.say("names"), shown)

    def test_undo_is_no_deed(self):
        self.desk.say("words w 0 9")
        self.desk.say("undo")
        self.desk.say("undo")
        self.assertEqual(self.desk.say("names"), "e s w")
        self.desk.say("words x 0 1")
        self.desk.say("undo")
        self.desk.say("undo")
        self.assertEqual(self.desk.say("names"), "s w")

    def test_questions_and_errors_are_no_deeds(self):
        for row in ("names", "show s", "least s w"):
            self.desk.say(row)
        for kind, row, field in ((BadRow, "undo x", 1), (NoName, "gone x", "x"), (BadText, "words w x", 1),
                                 (BadTalk, "talk t\ntalk 0 0\nends", None), (BadOrder, "stalls s w 1", None)):
            self.assert_error(kind, row, field)
        self.desk.say("undo")
        self.assertEqual(self.desk.say("names"), "e s w")

    def test_many_rows(self):
        desk = Desk()
        for number in range(20000):
            desk.say(f"words {'abcdefgh'[number % 8]} 0 {number + 1}")
        for number in range(19990):
            desk.say("undo")
        self.assertEqual(desk.say("show a"), "0 9")
        self.assertEqual(desk.say("names"), "a b c d e f g h")
        for _ in range(10):
            desk.say("undo")
        self.assertEqual(desk.say("names"), "none")

    def test_desks_do_not_share_anything(self):
        other = Desk()
        other.say("words only 0 1")
        self.assertEqual((self.desk.say("names"), other.say("names")), ("e s t w", "only"))

    def test_arguments_by_their_names(self):
        self.assertEqual(self.desk.say(row="names"), "e s t w")


class QuestionTest(DeskTest):
    def test_by_hand(self):
        # 2 and 1 go out at once, 5 bytes as a full segment, and 1 is kept until the timer.
        for row, answer in (
                ("stalls s w quick", "1 4 0"), ("stalls s w slow", "1 4 0"), ("stalls s w 010", "1 4 0"),
                ("stalls s e quick", "0 0 0"), ("least s w", "1"), ("most s w", "1"), ("verdicts s w", "never always"),
                ("verdicts s e", "none"), ("bands s w", "1-1 0 0, 2-4 1 1, 5-5 0 0, 6- 1 1"), ("bands s e", "1- 0 0"),
                ("first s t", "0 1 more; 1 4"), ("fewest s t 0", "0"), ("fewest s t 4", "0"), ("fewest s t 3", "none"),
                ("greatest s t 4", "2"), ("greatest s t 1", "none"), ("share s t", "1/2"), ("cure s w push", "2"),
                ("cure s w more", "none"), ("cure s e push", "nothing"), ("cure s t push", "1"), ("cure s t more", "none"),
                ("fewest s t 1000000000000000000", "0"), ("greatest s t 1000000000000000000", "500000000000000000")):
            with self.subTest(row=row):
                self.assertEqual(self.desk.say(row), answer)
                self.assertEqual(self.desk.say(row), answer)

    def test_other_answers(self):
        self.desk.say("talk c\ntalk 2 0\nends 1\n0 1 0 4")
        self.desk.say("words m 0 1 more; 1 1; 0 1 more; 1 1 more")
        for row, answer in (("first s c", "never"), ("share s c", "none"), ("cure s c push", "nothing"),
                            ("cure s m push", "0 2 3"), ("fewest s c 1", "0"), ("fewest s c 0", "none")):
            self.assertEqual(self.desk.say(row), answer)
        self.desk.say("talk o\ntalk 1 0\nends 0")
        self.assertEqual((self.desk.say("first s o"), self.desk.say("fewest s o 0")), ("never", "0"))
        self.desk.say("talk f\ntalk 2 0\nends 1\n0 1 0 3 more")
        self.assertEqual(self.desk.say("first s f"), "0 3 more")

    def test_against_the_functions(self):
        chance = random.Random(SEED)
        for _ in range(120):
            setting, writes = some_case(chance, 6)
            talk = some_talk(chance)
            desk = told_desk((f"setting x {setting}", f"words y {show_conversation(writes)}".rstrip(), f"talk z\n{show_talk(talk)}"))

            def told(value):
                return "none" if value is None else str(value)

            for word, order in (("quick", "quick"), ("slow", "slow"), ("0" * len(writes), [0] * len(writes))):
                if word:
                    seen = outcome(setting, writes, order)
                    self.assertEqual(desk.say(f"stalls x y {word}"), f"{seen.stalls} {seen.segments} {seen.acknowledgments}")
            self.assertEqual(desk.say("least x y"), str(least(setting, writes)[0]))
            self.assertEqual(desk.say("most x y"), str(most(setting, writes)[0]))
            self.assertEqual(desk.say("verdicts x y"), " ".join(verdicts(setting, writes)) or "none")
            rows = [f"{low}-{'' if high is None else high} {few} {many}" for low, high, few, many in bands(setting, writes)]
            self.assertEqual(desk.say("bands x y"), ", ".join(rows))
            found = first_stall(talk, setting)
            self.assertEqual(desk.say("first x z"),
                             show_conversation(talk.conversation(found[0])) if found else "never")
            for count in (0, 1, 2, 7, 10 ** 18):
                self.assertEqual(desk.say(f"fewest x z {count}"), told(fewest_stalls(talk, setting, count)))
                self.assertEqual(desk.say(f"greatest x z {count}"), told(most_stalls(talk, setting, count)))
            pair = share(talk, setting)
            self.assertEqual(desk.say("share x z"), "none" if pair is None else f"{pair[0]}/{pair[1]}")
            for mode in ("push", "more"):
                for name, choice in (("y", cure(setting, writes, mode=mode)[0]), ("z", cure_talk(talk, setting, mode=mode)[0])):
                    wanted = "none" if choice is None else " ".join(map(str, choice)) or "nothing"
                    self.assertEqual(desk.say(f"cure x {name} {mode}"), wanted)
            self.assertEqual((desk.say("show x"), desk.say("show y"), desk.say("show z")),
                             (str(setting), show_conversation(writes), show_talk(talk)))


class RowTest(DeskTest):
    def test_no_strings(self):
        for value in strange_values() + [b"names", ["names"], ("names",), {"names"}, Desk()]:
            if not isinstance(value, str):
                with self.subTest(value=value):
                    self.assert_error(BadRow, value)

    def test_strange_strings(self):
        for value in strange_values() + ["Names", "name", "namess", "GONE", "setting\n", "ok", "/", "#", "0 names", "undo\n",
                                         "\nnames", "names\n", "show\ns", "Talk t\n" + TALK, "alk t\n" + TALK]:
            if isinstance(value, str):
                with self.subTest(value=value):
                    self.assert_error(BadRow, value, 0)

    def test_words_missing_and_too_many(self):
        for row in SHORT:
            words = row.split(" ")
            for many in range(1, len(words)):
                self.assert_error(BadRow, " ".join(words[:many]), many)
                # A space at the end makes an empty word.
                self.assert_error(BadRow, " ".join(words[:many]) + " ", many)
            for more in (" x", " ", "  ", " push", " 0", " \n", " x y z"):
                self.assert_error(BadRow, row + more, len(words))
            self.assert_error(BadRow, " " + row, 0)
            for at in range(1, len(words)):
                self.assert_error(BadRow, " ".join(words[:at]) + "  " + " ".join(words[at:]), at)

    def test_words_that_are_none(self):
        for row in SHORT:
            words = row.split(" ")
            for at in range(1, len(words)):
                for word in ("", "S", "a1", "abcdefghi", "a-b", "a\n", "\na", "x.", "1.0", "-1", "+1", "00x", "Quick", "plain",
                             "1000000000000000001", "1" * 41, "1" * 5000, "push\n", "quick\n"):
                    if word == "plain" and at < 3 or word == "1" * 41 and words[0] == "stalls" and at == 3:
                        continue
                    if words[0] == "stalls" and at == 3 and word.isdigit():
                        continue
                    with self.subTest(row=row, at=at, word=word):
                        self.assert_error(BadRow, " ".join(words[:at] + [word] + words[at + 1:]), at)

    def test_the_first_wrong_word_counts(self):
        for row, column in (("x y z", 0), ("show S x", 1), ("least S W", 1), ("least s W", 2), ("least s W x", 2),
                            ("least s w W", 3), ("cure s w Push", 3), ("cure s W Push", 2), ("stalls s", 2), ("stalls s  x", 2),
                            ("gone", 1), ("gone ", 1), ("gone w w", 2), ("", 0), (" ", 0), ("names ", 1), ("undo undo", 1)):
            self.assert_error(BadRow, row, column)

    def test_numbers(self):
        for word in ("0", "1", "2", "10", "1000000000000000000"):
            self.assertIn(self.desk.say(f"fewest s t {word}"), ("0", "none"))
        for word in ("00", "01", "-0", "+1", "1000000000000000001", "9" * 40, "9" * 41, "1e3", "1_0", "x", "quick", "1\n"):
            for first in ("fewest", "greatest"):
                self.assert_error(BadRow, f"{first} s t {word}", 3)

    def test_orders(self):
        for word in ("000", "010", "020", "quick", "slow"):
            self.assertEqual(self.desk.say(f"stalls s w {word}"), "1 4 0")
        for word in ("Quick", "quick0", "0,0", "-1", "0a", "0\n", "slow\n", "0-"):
            self.assert_error(BadRow, f"stalls s w {word}", 3)
        for word, index in (("0", None), ("0000", None), ("0" * 5000, None), ("100", 0), ("030", 1), ("090", 1), ("001", 2),
                            ("139", 0)):
            self.assert_error(BadOrder, f"stalls s w {word}", index)
        self.assert_error(BadOrder, "stalls s e 0", None)

    def test_modes(self):
        for name in ("w", "t"):
            for word in ("plain", "Push", "pushh", "MORE", "0"):
                self.assert_error(BadRow, f"cure s {name} {word}", 3)

    def test_deeds_with_texts(self):
        text = "4; all 2 0; all 2 0"
        for row, column in (("setting", 1), ("setting ", 1), ("setting a", 2), ("setting a ", 2), ("setting  a " + text, 1),
                            ("setting A " + text, 1), ("setting abcdefghi " + text, 1), ("setting a\n" + text, 1),
                            ("setting\na " + text, 0), (" setting a " + text, 0), ("words", 1), ("words ", 1), ("words a ", 2),
                            ("words  a 0 5", 1), ("words A 0 5", 1), ("words a\n", 1), ("words a\n0 5", 1), ("words 0 5", 1),
                            ("words a1", 1), ("words  ", 1)):
            with self.subTest(row=row):
                self.assert_error(BadRow, row, column)
        for row in ("setting a  " + text, "setting a " + text + " ", "setting a " + text + "\n", "setting a x", "setting a  ",
                    "setting a \n", "setting s 0; all 2 0; all 2 0", "words a  0 5", "words a 0 5 ", "words a 0 5\n",
                    "words a  ", "words a \n", "words a 0 5 plain", "words w 0 5; 2 5", "words w 0 5;0 5"):
            with self.subTest(row=row):
                self.assert_error(BadText, row, 1)

    def test_talks(self):
        for row, column in (("talk", 1), ("talk ", 1), ("talk  ", 1), ("talk t", 2), ("talk t ", 2), ("talk t b", 2),
                            ("talk t b\n", 2), ("talk t b\n" + TALK, 2), ("talk t \n" + TALK, 2), ("talk  t\n" + TALK, 1),
                            ("talk T\n" + TALK, 1), ("talk tttttttttt\n" + TALK, 1), ("talk t b c\n" + TALK, 2), (" talk t\n" + TALK, 0),
                            ("talk 2 0\nends", 1), ("talk t talk 2 0\nends", 2), ("talk \n" + TALK, 1), ("talk\n" + TALK, 1)):
            with self.subTest(row=row):
                self.assert_error(BadRow, row, column)
        for text, line in (("", 1), ("\n", 1), ("talk 1 0", 2), ("talk 1 0\n", 2), ("\n" + TALK, 1), (" " + TALK, 1), (TALK + "\n", 6),
                           (TALK + "\n0 1 0 1 plain", 6), ("talk 1 0\nends 0\nx", 3)):
            with self.subTest(text=text):
                self.assert_error(BadText, "talk t\n" + text, line)
        self.assert_error(BadTalk, "talk t\ntalk 0 0\nends", None)
        self.assert_error(BadTalk, "talk t\ntalk 2 0\nends\n0 2 0 1", 0)
        self.assert_error(EndlessTurn, "talk t\ntalk 2 0\nends\n0 0 1 1", 1)
        self.assertEqual(read_talk(self.desk.say("show t")).useful(), [0, 1, 2])


class NameTest(DeskTest):
    def test_names_that_stand_for_nothing(self):
        for row in SHORT:
            words = row.split(" ")
            for at, word in enumerate(words):
                if at > 0 and word in ("s", "t", "w"):
                    self.assert_error(NoName, " ".join(words[:at] + ["nobody"] + words[at + 1:]), "nobody")
        self.assert_error(NoName, "least x y", "x")
        self.assert_error(NoName, "least s y", "y")
        self.assert_error(NoName, "cure nobody w push", "nobody")

    def test_names_of_another_kind(self):
        wrong = {"s": ("w", "t", "e"), "w": ("s", "t"), "t": ("s", "w")}
        for row in SHORT:
            words = row.split(" ")
            if words[0] in ("gone", "show", "cure"):
                continue
            for at, word in enumerate(words):
                for other in wrong.get(word, ()) if at > 0 else ():
                    self.assert_error(NoName, " ".join(words[:at] + [other] + words[at + 1:]), other)
        for name in ("w", "t"):
            self.assert_error(NoName, f"cure {name} w push", name)
        self.assert_error(NoName, "cure s s push", "s")
        self.assert_error(NoName, "least w s", "w")

    def test_deeds_need_no_name(self):
        desk = Desk()
        for row in ROWS:
            self.assertEqual(desk.say(row), "ok")
        self.assert_error(NoName, "gone x", "x", desk=desk)


class ErrorOrderTest(DeskTest):
    def test_which_comes_first(self):
        self.assert_error(BadRow, "stalls x w Slow", 3)
        self.assert_error(BadRow, "undo x", 1, desk=Desk())
        self.assert_error(NoName, "stalls x w 9", "x")
        self.assert_error(NoName, "stalls s x 9", "x")
        self.assert_error(NoName, "cure s x push", "x")
        self.assert_error(NothingDone, "undo", desk=Desk())

    def test_too_long(self):
        self.desk.say("words n " + "; ".join(["0 1 more"] * 9))
        for mode in ("push", "more"):
            self.assert_error(TooLong, f"cure s n {mode}", 9)
        self.desk.say("words b 0 1000; 1 1")
        self.assert_error(TooLong, "bands s b", 1001)
        self.desk.say("talk n\ntalk 2 0\nends 1\n" + "\n".join(["0 1 0 1"] * 9))
        self.assert_error(TooLong, "cure s n push", 9)
        self.desk.say("words a 0 1000")
        self.assertEqual(self.desk.say("bands s a"), "1- 0 0")

    def test_an_error_leaves_what_stood_there(self):
        for row in ("setting s x", "words w x", "talk t\nx", "talk t\ntalk 0 0\nends", "setting w x", "words s x"):
            before = self.picture(self.desk)
            with self.assertRaises((BadText, BadTalk)):
                self.desk.say(row)
            self.assertEqual(self.picture(self.desk), before)
        for _ in ROWS:
            self.desk.say("undo")
        self.assert_error(NothingDone, "undo")


if __name__ == "__main__":
    unittest.main()
