"""Point 11: undo, trials and what is tried."""

import unittest

from latewords.errors import NothingDone, NotPossible
from latewords.roads import Road, Trial
from latewords.settings import Policy, Setting
from tests.values import picture

CONVERSATION = [(0, 2, "plain"), (0, 1, "plain"), (0, 5, "more"), (1, 5, "plain")]


class Left(Exception):
    pass


class TrialTestCase(unittest.TestCase):
    def road(self, *events):
        road = Road(Setting(4, Policy(), Policy(quick=1)), CONVERSATION)
        for event in events:
            road.do(event)
        return road

    def assert_nothing_done(self, road):
        before = picture(road)
        with self.assertRaises(NothingDone):
            road.undo()
        self.assertEqual(picture(road), before)

    def do_all(self, road):
        while road.possible():
            road.do(road.possible()[0])


class UndoTest(TrialTestCase):
    def test_undo_to_the_beginning(self):
        road = self.road()
        self.assert_nothing_done(road)
        pictures = []
        while road.possible():
            pictures.append(picture(road))
            road.do(road.possible()[-1])
        self.assertTrue(road.is_over)
        for seen in reversed(pictures):
            last = road.log()[-1]
            self.assertEqual(road.undo(), last)
            self.assertEqual(picture(road), seen)
        self.assert_nothing_done(road)

    def test_another_way_after_an_undo(self):
        road = self.road("write", "write")
        self.assertEqual(road.undo(), "write")
        road.do("arrive 0")
        self.assertEqual(road.log(), ["write", "arrive 0"])
        self.assertEqual(road.possible(), ["write", "arrive 1"])

    def test_undo_takes_a_stall_back(self):
        road = Road(Setting(4), [(0, 3, "more")])
        road.do("write")
        road.do("timer")
        self.assertEqual((road.stall_count, road.keeps(0)), (1, False))
        self.assertEqual(road.undo(), "timer")
        self.assertEqual((road.stall_count, road.keeps(0), road.rest_of(0)), (0, True, 3))


class TrialTest(TrialTestCase):
    def test_all_events_are_taken_back(self):
        road = self.road("write")
        before = picture(road)
        with Trial(road) as same:
            self.assertIs(same, road)
            self.do_all(same)
            self.assertTrue(road.is_over)
        self.assertEqual(picture(road), before)

    def test_a_trial_on_a_new_road_and_on_a_finished_one(self):
        road = self.road()
        for _ in range(2):
            before = picture(road)
            with Trial(road):
                self.assert_nothing_done(road)
                self.do_all(road)
            self.assertEqual(picture(road), before)
            self.do_all(road)

    def test_the_trial_goes_on_from_where_the_road_is(self):
        road = self.road("write", "write")
        with Trial(road=road):
            self.assertEqual(road.log(), ["write", "write"])
            self.assertEqual(len(road), 2)
            road.do("arrive 0")
            self.assertEqual(len(road), 3)
            self.assertEqual(road.log(), ["write", "write", "arrive 0"])

    def test_undo_stops_at_the_beginning_of_the_innermost_trial(self):
        road = self.road("write")
        with Trial(road):
            self.assert_nothing_done(road)
            road.do("write")
            with Trial(road):
                self.assert_nothing_done(road)
                road.do("arrive 0")
                self.assertEqual(road.undo(), "arrive 0")
                self.assert_nothing_done(road)
                road.do("write")
            self.assertEqual(road.log(), ["write", "write"])
            self.assertEqual(road.undo(), "write")
            self.assert_nothing_done(road)
        self.assertEqual(road.log(), ["write"])
        self.assertEqual(road.undo(), "write")
        self.assert_nothing_done(road)

    def test_trials_within_trials(self):
        road = self.road("write")
        pictures = [picture(road)]
        with Trial(road):
            road.do("write")
            pictures.append(picture(road))
            for event in ("arrive 0", "write"):
                with Trial(road):
                    road.do(event)
                    middle = picture(road)
                    with Trial(road):
                        self.do_all(road)
                    self.assertEqual(picture(road), middle)
                self.assertEqual(picture(road), pictures[1])
        self.assertEqual(picture(road), pictures[0])

    def test_a_trial_that_undoes_and_goes_another_way(self):
        road = self.road("write")
        before = picture(road)
        with Trial(road):
            road.do("write")
            road.undo()
            road.do("arrive 0")
            road.do("arrive 1")
        self.assertEqual(picture(road), before)

    def test_a_trial_left_by_an_error(self):
        road = self.road("write")
        before = picture(road)
        for wrong in (Left, NotPossible, NothingDone, KeyboardInterrupt):
            with self.assertRaises(wrong):
                with Trial(road):
                    road.do("write")
                    with Trial(road):
                        road.do("arrive 0")
                        if wrong is NotPossible:
                            road.do("timer")
                        raise wrong()
            self.assertEqual(picture(road), before)
            self.assertEqual(road.undo(), "write")
            road.do("write")

    def test_an_error_within_an_outer_trial(self):
        road = self.road("write")
        with Trial(road):
            road.do("write")
            before = picture(road)
            with self.assertRaises(Left):
                with Trial(road):
                    self.do_all(road)
                    raise Left()
            self.assertEqual(picture(road), before)
            self.assertEqual(road.undo(), "write")
            self.assert_nothing_done(road)

    def test_a_trial_left_by_return_and_by_break(self):
        road = self.road("write")
        before = picture(road)

        def leave():
            with Trial(road):
                road.do("write")
                return road.log()

        self.assertEqual(leave(), ["write", "write"])
        self.assertEqual(picture(road), before)
        for event in ("write", "arrive 0"):
            with Trial(road):
                road.do(event)
                break
        self.assertEqual(picture(road), before)

    def test_a_trial_may_be_entered_again(self):
        road = self.road()
        trial = Trial(road)
        for count in range(3):
            with trial as same:
                self.assertEqual(len(same), count)
                road.do("write")
            self.assertEqual(len(road), count)
            road.do("write")

    def test_a_trial_begins_when_the_block_does(self):
        road = self.road()
        trial = Trial(road)
        road.do("write")
        with trial:
            self.assert_nothing_done(road)
            road.do("write")
        self.assertEqual(road.log(), ["write"])

    def test_trials_of_two_roads(self):
        one, other = self.road("write"), self.road("write", "write")
        with Trial(one), Trial(other):
            one.do("arrive 0")
            other.do("arrive 0")
            self.assertEqual((len(one), len(other)), (2, 3))
        self.assertEqual((one.log(), other.log()), (["write"], ["write", "write"]))

    def test_clearings_within_a_trial(self):
        road = self.road("write", "write")
        with Trial(road):
            self.assertEqual(road.clearing(), 2)
            self.assertEqual(road.undo(), "arrive 1")
        self.assertEqual(road.log(), ["write", "write"])


class TriedTest(TrialTestCase):
    def test_what_the_function_returns(self):
        road = self.road("write")
        before = picture(road)

        def function(same):
            self.assertIs(same, road)
            self.do_all(same)
            return same.log()

        log = road.tried(function)
        self.assertEqual(log[0], "write")
        self.assertGreater(len(log), 5)
        self.assertEqual(picture(road), before)
        self.assertIsNone(road.tried(lambda same: same.do("write")))
        self.assertEqual(road.tried(len), 1)
        self.assertEqual(picture(road), before)

    def test_a_function_that_raises(self):
        road = self.road("write")
        before = picture(road)
        raised = Left()

        def function(same):
            same.do("write")
            raise raised

        with self.assertRaises(Left) as caught:
            road.tried(function)
        self.assertIs(caught.exception, raised)
        self.assertEqual(picture(road), before)
        with self.assertRaises(NotPossible):
            road.tried(lambda same: same.do("timer"))
        with self.assertRaises(NothingDone):
            road.tried(lambda same: same.undo())
        self.assertEqual(picture(road), before)
        self.assertEqual(road.undo(), "write")

    def test_tried_within_tried(self):
        road = self.road()

        def fewest(same):
            if same.is_over:
                return same.stall_count
            counts = []
            for event in same.possible():
                def further(again, event=event):
                    again.do(event)
                    return fewest(again)
                counts.append(same.tried(further))
            return min(counts)

        # The kept rest of the first turn waits in every sequence of events, the held one of the second, too.
        self.assertEqual(fewest(road), 2)
        self.assertEqual(road.log(), [])


if __name__ == "__main__":
    unittest.main()
