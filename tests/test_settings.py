"""Point 9, and point 2 for policies and settings."""

import unittest

from latewords.errors import BadSetting
from latewords.settings import Policy, Setting
from tests.values import strange_values

WORDS = ("off", "partial", "all")


def bad_for(good):
    """The strange values that are not among the good ones; True is not 1 here."""
    return [value for value in strange_values()
            if not any(type(value) is type(item) and value == item for item in good)]


class SettingsTest(unittest.TestCase):
    def assert_bad(self, name, function, *rest, **more):
        with self.assertRaises(BadSetting) as caught:
            function(*rest, **more)
        self.assertEqual(caught.exception.name, name)


class PolicyTest(SettingsTest):
    def test_defaults(self):
        policy = Policy()
        self.assertEqual((policy.hold, policy.every, policy.quick), ("all", 2, 0))

    def test_holds(self):
        self.assertEqual(Policy.HOLDS, WORDS)
        self.assertIsInstance(Policy.HOLDS, tuple)
        self.assertEqual(Policy("off").HOLDS, WORDS)

    def test_attributes_are_those_given(self):
        for hold in WORDS:
            for every in range(10):
                for quick in range(5):
                    policy = Policy(hold, every=every, quick=quick)
                    self.assertEqual((policy.hold, policy.every, policy.quick), (hold, every, quick))
                    self.assertEqual(vars(policy), {"hold": hold, "every": every, "quick": quick})

    def test_arguments_by_name_and_by_name_only(self):
        self.assertEqual(Policy(quick=1, every=3, hold="off"), Policy("off", every=3, quick=1))
        with self.assertRaises(TypeError):
            Policy("off", 3)

    def test_bad_hold(self):
        for value in bad_for(WORDS):
            with self.subTest(value=value):
                self.assert_bad("hold", Policy, value)

    def test_bounds_of_every_and_quick(self):
        self.assertEqual(Policy(every=0).every, 0)
        self.assertEqual(Policy(every=9).every, 9)
        self.assertEqual(Policy(quick=0).quick, 0)
        self.assertEqual(Policy(quick=4).quick, 4)
        for value in (-1, 10):
            self.assert_bad("every", Policy, every=value)
        for value in (-1, 5):
            self.assert_bad("quick", Policy, quick=value)

    def test_bad_every_and_quick(self):
        for value in bad_for(range(10)):
            with self.subTest(value=value):
                self.assert_bad("every", Policy, every=value)
        for value in bad_for(range(5)):
            with self.subTest(value=value):
                self.assert_bad("quick", Policy, quick=value)

    def test_the_first_bad_parameter_is_told(self):
        self.assert_bad("hold", Policy, True, every=True, quick=True)
        self.assert_bad("hold", Policy, None, every=2, quick=5)
        self.assert_bad("every", Policy, "all", every=10, quick=5)
        self.assert_bad("quick", Policy, "all", every=9, quick=5)

    def test_equality(self):
        self.assertEqual(Policy(), Policy("all", every=2, quick=0))
        self.assertFalse(Policy() != Policy())
        for other in (Policy("off"), Policy(every=3), Policy(quick=1)):
            self.assertNotEqual(Policy(), other)
            self.assertFalse(Policy() == other)
        for value in strange_values():
            if not isinstance(value, Policy):
                self.assertFalse(Policy() == value)
                self.assertTrue(Policy() != value)
        for value in ("all 2 0", ("all", 2, 0), Setting(4), None):
            self.assertFalse(Policy() == value)
            self.assertFalse(value == Policy())

    def test_texts(self):
        self.assertEqual(str(Policy()), "all 2 0")
        self.assertEqual(str(Policy("off", every=1, quick=3)), "off 1 3")
        self.assertEqual(repr(Policy()), "Policy('all', every=2, quick=0)")
        self.assertEqual(repr(Policy("partial", every=9, quick=4)), "Policy('partial', every=9, quick=4)")


class SettingTest(SettingsTest):
    def test_policies_none_one_and_two(self):
        off, quick = Policy("off"), Policy(quick=1)
        self.assertEqual(Setting(4).policies, (Policy(), Policy()))
        self.assertEqual(Setting(4, off).policies, (off, off))
        self.assertEqual(Setting(4, off, quick).policies, (off, quick))
        for setting in (Setting(4), Setting(4, off), Setting(4, off, quick)):
            self.assertIsInstance(setting.policies, tuple)
            self.assertEqual(set(vars(setting)), {"size", "policies"})

    def test_size(self):
        self.assertEqual(Setting(1).size, 1)
        self.assertEqual(Setting(size=10 ** 18).size, 10 ** 18)
        self.assert_bad("size", Setting, 0)
        self.assert_bad("size", Setting, -1)
        self.assert_bad("size", Setting, 10 ** 18 + 1)
        for value in bad_for((1, 2, 10)):
            with self.subTest(value=value):
                self.assert_bad("size", Setting, value)

    def test_bad_policies(self):
        for value in strange_values():
            if not isinstance(value, Policy):
                with self.subTest(value=value):
                    self.assert_bad("policies", Setting, 4, value)
                    self.assert_bad("policies", Setting, 4, Policy(), value)
                    self.assert_bad("policies", Setting, 4, value, Policy())
        self.assert_bad("policies", Setting, 4, Policy(), Policy(), Policy())
        self.assert_bad("policies", Setting, 4, None, None, None)

    def test_size_is_told_ahead_of_policies(self):
        self.assert_bad("size", Setting, 0, None)
        self.assert_bad("size", Setting, True, Policy(), Policy(), Policy())

    def test_equality(self):
        off = Policy("off")
        self.assertEqual(Setting(4), Setting(4, Policy()))
        self.assertEqual(Setting(4, off, Policy()), Setting(4, Policy("off"), Policy()))
        self.assertFalse(Setting(4) != Setting(4, Policy(), Policy()))
        for other in (Setting(5), Setting(4, off), Setting(4, off, Policy()), Setting(4, Policy(), off)):
            self.assertFalse(Setting(4) == other)
            self.assertTrue(Setting(4) != other)
        self.assertNotEqual(Setting(4, off, Policy()), Setting(4, Policy(), off))
        for value in strange_values():
            if not isinstance(value, Setting):
                self.assertFalse(Setting(4) == value)
                self.assertTrue(Setting(4) != value)
        self.assertFalse(Setting(4) == (4, Policy(), Policy()))
        self.assertFalse(Setting(4) == str(Setting(4)))

    def test_texts(self):
        setting = Setting(4, Policy(), Policy("off", every=1, quick=3))
        self.assertEqual(str(setting), "4; all 2 0; off 1 3")
        self.assertEqual(
            repr(setting), "Setting(4, Policy('all', every=2, quick=0), Policy('off', every=1, quick=3))")
        self.assertEqual(str(Setting(10 ** 18)), "1000000000000000000; all 2 0; all 2 0")


class ChangedTest(SettingsTest):
    def setUp(self):
        self.setting = Setting(4, Policy("all", every=3, quick=1), Policy("off", every=0, quick=2))

    def assert_old_stays(self):
        self.assertEqual(str(self.setting), "4; all 3 1; off 0 2")

    def test_each_value_for_both_and_for_one(self):
        cases = [
            ({}, "4; all 3 1; off 0 2"),
            ({"endpoint": 0}, "4; all 3 1; off 0 2"),
            ({"size": 7}, "7; all 3 1; off 0 2"),
            ({"size": 7, "endpoint": 1}, "7; all 3 1; off 0 2"),
            ({"hold": "partial"}, "4; partial 3 1; partial 0 2"),
            ({"hold": "partial", "endpoint": None}, "4; partial 3 1; partial 0 2"),
            ({"hold": "partial", "endpoint": 0}, "4; partial 3 1; off 0 2"),
            ({"hold": "partial", "endpoint": 1}, "4; all 3 1; partial 0 2"),
            ({"every": 9}, "4; all 9 1; off 9 2"),
            ({"every": 0, "endpoint": 0}, "4; all 0 1; off 0 2"),
            ({"every": 9, "endpoint": 1}, "4; all 3 1; off 9 2"),
            ({"quick": 0}, "4; all 3 0; off 0 0"),
            ({"quick": 4, "endpoint": 0}, "4; all 3 4; off 0 2"),
            ({"quick": 4, "endpoint": 1}, "4; all 3 1; off 0 4"),
            ({"quick": 3, "every": 5, "hold": "off", "size": 1, "endpoint": 0}, "1; off 5 3; off 0 2"),
            ({"quick": 3, "every": 5, "hold": "all", "size": 1}, "1; all 5 3; all 5 3"),
        ]
        for changes, text in cases:
            with self.subTest(changes=changes):
                self.assertEqual(str(self.setting.changed(**changes)), text)
                self.assertIsInstance(self.setting.changed(**changes), Setting)
                self.assert_old_stays()

    def test_it_returns_a_new_setting(self):
        self.assertIsNot(self.setting.changed(), self.setting)
        self.assertEqual(self.setting.changed(), self.setting)

    def test_arguments_by_name_only(self):
        with self.assertRaises(TypeError):
            self.setting.changed(0)

    def test_bad_values(self):
        goods = {"size": (1, 2, 10), "hold": WORDS, "every": range(10), "quick": range(5)}
        for endpoint in (None, 0, 1):
            for name, good in goods.items():
                for value in bad_for(good):
                    with self.subTest(endpoint=endpoint, name=name, value=value):
                        self.assert_bad(name, self.setting.changed, endpoint=endpoint, **{name: value})
        self.assert_old_stays()

    def test_bounds(self):
        for endpoint in (None, 0, 1):
            for name, low, high in (("size", 1, 10 ** 18), ("every", 0, 9), ("quick", 0, 4)):
                self.setting.changed(endpoint=endpoint, **{name: low})
                self.setting.changed(endpoint=endpoint, **{name: high})
                self.assert_bad(name, self.setting.changed, endpoint=endpoint, **{name: low - 1})
                self.assert_bad(name, self.setting.changed, endpoint=endpoint, **{name: high + 1})

    def test_the_first_bad_value_is_told(self):
        names = ["size", "hold", "every", "quick"]
        for endpoint in (None, 0, 1):
            for first in range(4):
                changes = {name: None for name in reversed(names[first:])}
                with self.subTest(endpoint=endpoint, first=first):
                    self.assert_bad(names[first], self.setting.changed, endpoint=endpoint, **changes)
        self.assert_old_stays()


if __name__ == "__main__":
    unittest.main()
