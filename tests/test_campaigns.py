"""[26]: campaigns of no, one and several runs, and the slopes of an epoch."""

import unittest
from unittest import mock

from samples import (ANY_VALUES, all_cuts, all_tuples, as_lists, dice, some_batch, some_case, some_net,
                     some_schedule)
from stagesfull.campaigns import campaign, epoch_slopes
from stagesfull.errors import InvalidCut
from stagesfull.nets import Net, portion_slopes, train
from stagesfull.rules import fill_and_drain, one_and_one
from stagesfull.runs import Run

NET = Net(89, (((2,),), ((3,),), ((4,),)), ("line", "square", "line"))
BATCH = ((((1,), (2,)), ((3,), (4,))), (((5,), (6,)),))
OTHER_BATCH = ((((4,), (0,)),), (((2,), (5,)),), (((6,), (1,)), ((1,), (1,))))
LEGS = (((1, 2), BATCH, one_and_one(2, 2, 2), 3, False), ((3,), OTHER_BATCH, fill_and_drain(1, 1, 3), 5, True),
        ((1, 1, 1), BATCH, fill_and_drain(3, 3, 2), 1, True))


def some_leg(rng, net):
    machines = rng.randint(1, min(4, len(net)))
    stages = machines * rng.randint(1, len(net) // machines)
    portions = rng.randint(1, 6)
    return (rng.choice(all_cuts(len(net), stages)), some_batch(rng, net, portions),
            some_schedule(rng, machines, stages, portions), rng.randint(0, 1000), rng.random() < 0.5)


class Campaign(unittest.TestCase):
    def test_no_leg(self):
        for legs in ((), []):
            self.assertEqual(campaign(NET, legs), Net(89, (((2,),), ((3,),), ((4,),)), ("line", "square", "line")))

    def test_by_hand(self):
        net = Net(7, (((2,),), ((3,),)), ("line", "square"))
        batch = ((((1,), (1,)),), (((2,), (0,)),))
        leg = ((1, 1), batch, one_and_one(2, 2, 2), 1, False)
        self.assertEqual(campaign(net, (leg,)).weights, (((5,),), ((5,),)))
        self.assertEqual(campaign(legs=[leg, leg], net=net), train(train(net, batch, 1), batch, 1))
        self.assertEqual(net, Net(7, (((2,),), ((3,),)), ("line", "square")))

    def test_several_legs(self):
        first = train(NET, BATCH, 3)
        second = train(first, OTHER_BATCH, 5)
        third = train(second, BATCH, 1)
        self.assertEqual([campaign(NET, LEGS[:many]) for many in range(4)], [NET, first, second, third])
        # Each of them changes something.
        for one, other in ((NET, first), (first, second), (second, third)):
            self.assertNotEqual(one, other)
        lists = [[as_lists(cut), as_lists(batch), schedule, rate, again] for cut, batch, schedule, rate, again in LEGS]
        self.assertEqual(campaign(NET, lists), third)
        self.assertEqual([leg[:2] for leg in lists], [as_lists(leg[:2]) for leg in LEGS])

    def test_plain_training_of_the_batches(self):
        rng = dice(1)
        for _ in range(80):
            net = some_net(rng)
            legs = [some_leg(rng, net) for _ in range(rng.randint(0, 6))]
            wanted = net
            for _, batch, _, rate, _ in legs:
                wanted = train(wanted, batch, rate)
            found = campaign(net, legs)
            self.assertEqual(found, wanted)
            self.assertTrue(all_tuples(found.weights))

    def test_each_leg_is_a_run_of_its_own(self):
        ran = []

        def noted(*given, **more):
            ran.append((given, more))
            return Run(*given, **more)

        with mock.patch("stagesfull.campaigns.Run", noted):
            campaign(NET, LEGS)
        self.assertEqual([more["again"] for _, more in ran], [False, True, True])
        self.assertEqual([given[1:5] for given, _ in ran], [leg[:4] for leg in LEGS])


class WrongCuts(unittest.TestCase):
    def check(self, net, legs, cut):
        with mock.patch("stagesfull.campaigns.Run", side_effect=AssertionError("a run")):
            with self.assertRaises(InvalidCut) as caught:
                campaign(net, legs)
        self.assertIs(caught.exception.cut, cut)

    def test_in_the_first_and_in_a_later_leg(self):
        wrong = [*ANY_VALUES, (3,), (1, 1, 1), (2, 2), (0, 3), (True, 2), ("1", 2), [1, 3], (1, 1)]
        for cut in wrong:
            leg = (cut, BATCH, one_and_one(2, 2, 2), 1, False)
            self.check(NET, (leg,), cut)
            self.check(NET, (leg, *LEGS), cut)
            self.check(NET, (*LEGS, leg), cut)
            self.check(NET, [LEGS[0], list(leg), LEGS[1]], cut)

    def test_the_first_one_of_several(self):
        one, other = [9], [8]
        legs = [(one, BATCH, one_and_one(2, 2, 2), 1, False), (other, BATCH, one_and_one(2, 2, 2), 1, True)]
        self.check(NET, legs, one)
        self.check(NET, legs[::-1], other)
        self.check(NET, (LEGS[0], *legs), one)

    def test_a_cut_for_another_schedule(self):
        cut = (1, 2)
        self.check(NET, (LEGS[0], (cut, BATCH, fill_and_drain(3, 3, 2), 1, False)), cut)
        cut = (1, 2, 1)
        self.check(NET, (LEGS[0], (cut, BATCH, fill_and_drain(3, 3, 2), 1, False)), cut)


class EpochSlopes(unittest.TestCase):
    def sums(self, net, batches):
        total = [[[0] * net.width for _ in range(net.width)] for _ in range(len(net))]
        for batch in batches:
            for portion in batch:
                for layer, matrix in enumerate(portion_slopes(net, portion)):
                    for i, row in enumerate(matrix):
                        for k, slope in enumerate(row):
                            total[layer][i][k] = (total[layer][i][k] + slope) % net.prime
        return tuple(tuple(tuple(row) for row in matrix) for matrix in total)

    def test_no_batch(self):
        for batches in ((), []):
            self.assertEqual(epoch_slopes(NET, batches), (((0,),),) * 3)

    def test_one_and_several_batches(self):
        rng = dice(2)
        for _ in range(60):
            net = some_case(rng)[0]
            batches = [some_batch(rng, net) for _ in range(rng.randint(0, 4))]
            lists = as_lists(batches)
            for given in (batches, tuple(batches), lists):
                found = epoch_slopes(batches=given, net=net)
                self.assertEqual(found, self.sums(net, batches))
                self.assertTrue(all_tuples(found))
            self.assertEqual(lists, as_lists(batches))

    def test_by_hand(self):
        # With W1 = 1 and t added the losses are (1 + t - 2) ** 2 and (2 * (1 + t)) ** 2.
        net = Net(11, (((1,),),), ("line",))
        one, other = ((((1,), (2,)),),), ((((2,), (0,)),),)
        self.assertEqual(epoch_slopes(net, (one,)), (((9,),),))
        self.assertEqual(epoch_slopes(net, (other,)), (((8,),),))
        self.assertEqual(epoch_slopes(net, (one, other)), (((6,),),))


if __name__ == "__main__":
    unittest.main()
