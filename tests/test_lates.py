"""[20], [21]: training in which each portion changes the weights at once, and the versions that it uses."""

import unittest

from samples import (ANY_VALUES, all_cuts, all_tuples, any_values_but, as_lists, dice, late_weights, some_case,
                     some_schedule)
from stagesfull.errors import InvalidCut
from stagesfull.lates import late_train, version_used
from stagesfull.nets import Net, train
from stagesfull.rules import fill_and_drain, one_and_one
from stagesfull.runs import Run
from stagesfull.schedules import Schedule, some_order
from stagesfull.works import Work

NET = Net(89, (((2,),), ((3,),), ((4,),)), ("line", "square", "line"))
BATCH = ((((1,), (2,)), ((3,), (4,))), (((5,), (6,)),))


class LateTrain(unittest.TestCase):
    def test_by_hand(self):
        # One stage: portion 1 goes forward with the weights that portion 0 has changed, or with the first ones.
        net = Net(97, (((1,),),), ("line",))
        batch = ((((1,), (3,)),), (((2,), (0,)),))
        # 1 + 4, then 5 * 2 comes out: slope 2 * 10 * 2.
        one_by_one = one_and_one(1, 2, 1)
        self.assertEqual(late_train(net, (1,), batch, one_by_one, 1).weights, (((5 - 40 + 97,),),))
        # Both with 1: slopes -4 and 8.
        both = fill_and_drain(1, 1, 2)
        self.assertEqual(late_train(net, (1,), batch, both, 1).weights, (((1 + 4 - 8 + 97,),),))

    def test_names_and_lists(self):
        cut, batch = [1, 2], as_lists(BATCH)
        found = late_train(rate=3, schedule=one_and_one(2, 2, 1), batch=batch, cut=cut, net=NET)
        self.assertEqual(found, late_train(NET, (1, 2), BATCH, one_and_one(2, 2, 1), 3))
        self.assertEqual((cut, batch), ([1, 2], as_lists(BATCH)))
        self.assertEqual(NET, Net(89, (((2,),), ((3,),), ((4,),)), ("line", "square", "line")))
        self.assertTrue(all_tuples(found.weights))
        self.assertEqual((found.prime, found.kinds), (NET.prime, NET.kinds))

    def test_a_run_with_own(self):
        rng = dice(1)
        others = 0
        for _ in range(250):
            net, cut, batch, schedule = some_case(rng)
            rate = rng.randint(0, 1000)
            found = late_train(net, cut, batch, schedule, rate)
            for again in (False, True):
                run = Run(net, cut, batch, schedule, rate, again=again, own=True)
                run.calm()
                self.assertEqual(found, run.trained())
            others += found != train(net, batch, rate)
        self.assertGreater(others, 80)

    def test_each_cut_and_several_schedules(self):
        for stages in (1, 2, 3):
            for cut in all_cuts(3, stages):
                for schedule in (fill_and_drain(1, stages, 2), fill_and_drain(stages, stages, 2),
                                 one_and_one(stages, 2, 1), one_and_one(stages, 2, stages)):
                    run = Run(NET, cut, BATCH, schedule, 7, own=True)
                    run.calm()
                    self.assertEqual(late_train(NET, cut, BATCH, schedule, 7), run.trained())

    def test_the_plain_reckoning(self):
        rng = dice(2)
        for _ in range(250):
            net, cut, batch, schedule = some_case(rng)
            rate = rng.randint(0, 1000)
            wanted = Net(net.prime, late_weights(net, cut, batch, schedule, rate), net.kinds)
            self.assertEqual(late_train(net, cut, batch, schedule, rate), wanted)

    def test_one_portion_is_plain_training(self):
        rng = dice(3)
        for _ in range(60):
            net, cut, batch, schedule = some_case(rng)
            alone = some_schedule(rng, schedule.machines, schedule.stages, 1)
            self.assertEqual(late_train(net, cut, batch[:1], alone, 5), train(net, batch[:1], 5))


class WrongCuts(unittest.TestCase):
    def check(self, net, cut, schedule):
        with self.assertRaises(InvalidCut) as caught:
            late_train(net, cut, BATCH, schedule, 1)
        self.assertIs(caught.exception.cut, cut)

    def test_any_value(self):
        for cut in ANY_VALUES:
            self.check(NET, cut, one_and_one(2, 2, 2))
            self.check(NET, cut, fill_and_drain(3, 3, 2))
        one = Net(7, (((2,),),), ("line",))
        for cut in any_values_but((1,), [1]):
            self.check(one, cut, one_and_one(1, 2, 1))

    def test_cuts_of_another_number(self):
        for cut in [(3,), (1, 1, 1), (1, 1), (2, 2), (0, 3), (3, 0), (4, -1), (2, True), (True, 2), ("1", 2), [1, 3]]:
            self.check(NET, cut, one_and_one(2, 2, 2))
        for cut in [(3,), (1, 2), (1, 1, 2), (1, 1, 0), (1, 1, True)]:
            self.check(NET, cut, fill_and_drain(3, 3, 2))


class VersionUsed(unittest.TestCase):
    def test_by_hand(self):
        schedule = one_and_one(2, 3, 2)
        # f0.0 f1.0 b0.0 f2.0 b1.0 b2.0 and f0.1 b0.1 f1.1 b1.1 f2.1 b2.1
        self.assertEqual([version_used(schedule, portion, 0) for portion in range(3)], [0, 0, 1])
        self.assertEqual([version_used(schedule, portion, 1) for portion in range(3)], [0, 1, 2])
        self.assertEqual(version_used(stage=1, portion=2, schedule=schedule), 2)

    def test_only_this_stage_counts(self):
        # One machine with two stages: f0.0 f0.1 b0.1 f1.0 f1.1 b1.1 b0.0 b1.0
        rows = [[("f", 0, 0), ("f", 0, 1), ("b", 0, 1), ("f", 1, 0), ("f", 1, 1), ("b", 1, 1), ("b", 0, 0),
                 ("b", 1, 0)]]
        schedule = Schedule(1, 2, 2, rows)
        self.assertEqual([version_used(schedule, 1, stage) for stage in (0, 1)], [0, 1])

    def test_the_deeds_back_ahead_of_it(self):
        rng = dice(4)
        for _ in range(100):
            schedule = some_schedule(rng)
            changes = [0] * schedule.stages
            for way, portion, stage in some_order(schedule):
                if way == "b":
                    changes[stage] += 1
                else:
                    self.assertEqual(version_used(schedule, portion, stage), changes[stage])

    def test_the_versions_of_works(self):
        rng = dice(5)
        for _ in range(60):
            schedule = some_schedule(rng, None, None, rng.randint(1, 6))
            works = [Work(NET, (0,), False, True, 3) for _ in range(schedule.stages)]
            for way, portion, stage in some_order(schedule):
                if way == "f":
                    works[stage].go_forward(portion, ((1,),))
                else:
                    works[stage].go_back(portion, ((1,),))
            for stage, work in enumerate(works):
                self.assertEqual(work.versions(), tuple((portion, version_used(schedule, portion, stage))
                                                        for portion in range(schedule.portions)))

    def test_one_and_one(self):
        for machines in range(1, 5):
            for portions in range(1, 9):
                schedule = one_and_one(machines, portions, machines)
                for portion in range(portions):
                    for stage in range(machines):
                        self.assertEqual(version_used(schedule, portion, stage),
                                         max(0, portion - (machines - stage) + 1))


if __name__ == "__main__":
    unittest.main()
