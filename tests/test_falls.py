"""[40]: a run that falls and goes on from what it kept."""

import unittest
from itertools import combinations

from samples import dice
from stagesfull.falls import least_every, time_with_falls, units_again


def plain(work, every, cost, falls):
    """When all is done and how many units were lost, moment by moment."""
    moment = done = kept = lost = 0
    # How long the present keeping still takes.
    keeping = None
    while done < work:
        if keeping is None and done % every == 0 and done > kept:
            keeping = cost
        if keeping == 0:
            kept, keeping = done, None
        if moment in falls:
            lost += done - kept
            done, keeping = kept, None
        if keeping is None:
            done += 1
        else:
            keeping -= 1
        moment += 1
    return moment, lost


class ByHand(unittest.TestCase):
    def check(self, given, moment, lost):
        self.assertEqual((time_with_falls(*given), units_again(*given)), (moment, lost))

    def test_no_falls(self):
        self.check((10, 3, 2, ()), 16, 0)
        # Nothing is kept when all is done.
        self.check((9, 3, 2, ()), 13, 0)
        self.check((3, 3, 50, ()), 3, 0)
        self.check((5, 8, 50, ()), 5, 0)
        self.check((1, 1, 50, ()), 1, 0)

    def test_one_fall(self):
        # Units until 3, kept until 5, units until 8, kept until 10.
        for fall, moment, lost in ((1, 17, 1), (2, 18, 2), (3, 19, 3), (4, 20, 3), (5, 16, 0), (6, 17, 1),
                                   (7, 18, 2), (8, 19, 3), (9, 20, 3), (10, 16, 0), (11, 17, 1)):
            self.check((10, 3, 2, (fall,)), moment, lost)

    def test_a_fall_just_at_an_end(self):
        # At the end of a unit: it has ended, but it is not kept.
        self.check((4, 2, 3, (1,)), 8, 1)
        self.check((4, 2, 3, (2,)), 9, 2)
        # At the end of a keeping: nothing is lost.
        self.check((4, 2, 3, (5,)), 7, 0)
        self.check((4, 2, 3, (4,)), 11, 2)
        # When all is done: nothing happens; directly ahead of it the last units are lost.
        self.check((4, 2, 3, (7,)), 7, 0)
        self.check((4, 2, 3, (6,)), 8, 1)
        self.check((4, 2, 3, (7, 8, 9)), 7, 0)

    def test_falls_one_after_the_other(self):
        self.check((2, 5, 0, (1, 2, 3, 4)), 6, 4)
        self.check((2, 5, 0, (1, 3)), 3, 1)
        # It gets no further than to the unit of each fall.
        self.check((3, 2, 1, tuple(range(1, 21))), 24, 20)
        self.check((3, 2, 1, (2, 4, 6)), 10, 6)

    def test_a_cost_of_nothing(self):
        # A keeping that takes nothing has ended at the very moment of its unit.
        self.check((6, 2, 0, ()), 6, 0)
        self.check((6, 2, 0, (2,)), 6, 0)
        self.check((6, 2, 0, (3,)), 7, 1)
        self.check((6, 1, 0, (1, 2, 3, 4, 5, 6)), 6, 0)
        self.check((6, 3, 0, (2, 5)), 8, 2)

    def test_no_work(self):
        for falls in ((), (1,), (1, 2, 3)):
            for every in (1, 2, 50):
                self.check((0, every, 7, falls), 0, 0)

    def test_names_and_lists(self):
        falls = [2, 4]
        self.assertEqual(time_with_falls(falls=falls, cost=1, every=2, work=3), 8)
        self.assertEqual(units_again(falls=falls, cost=1, every=2, work=3), 4)
        self.assertEqual(least_every(falls=falls, cost=1, work=3), 1)
        self.assertEqual(falls, [2, 4])


class AgainstEachMoment(unittest.TestCase):
    def check(self, *given):
        found = (time_with_falls(*given), units_again(*given))
        self.assertEqual(found, plain(*given), given)

    def test_all_small_ones(self):
        for work in range(6):
            for every in range(1, 5):
                for cost in range(4):
                    for many in range(4):
                        for falls in combinations(range(1, 10), many):
                            self.check(work, every, cost, falls)

    def test_greater_ones(self):
        rng = dice(1)
        for _ in range(600):
            work, every = rng.randint(0, 200), rng.choice((rng.randint(1, 10), rng.randint(1, 210)))
            cost = rng.choice((0, 1, rng.randint(0, 50)))
            falls = sorted(rng.sample(range(1, rng.choice((21, 100, 1000))), rng.randint(0, 20)))
            self.check(work, every, cost, falls)

    def test_without_falls(self):
        for work in range(1, 60):
            for every in range(1, 65):
                for cost in (0, 1, 50):
                    wanted = work + cost * ((work - 1) // every)
                    self.assertEqual(time_with_falls(work, every, cost, ()), wanted)
                    self.assertEqual(units_again(work, every, cost, []), 0)


class LeastEvery(unittest.TestCase):
    def test_by_hand(self):
        # Without falls nothing needs to be kept; if that costs nothing, the lowest number is told.
        self.assertEqual(least_every(9, 1, ()), 9)
        self.assertEqual(least_every(9, 0, ()), 1)
        self.assertEqual(least_every(1, 50, (1, 2, 3)), 1)
        # 10 units and a fall at 7: by 6 and a keeping of 1 the time is 11, any other number takes longer.
        self.assertEqual([time_with_falls(10, every, 1, (7,)) for every in (4, 5, 6, 7)], [14, 12, 11, 18])
        self.assertEqual(least_every(10, 1, (7,)), 6)

    def test_the_lowest_of_the_least(self):
        rng = dice(2)
        equals = 0
        for _ in range(300):
            work, cost = rng.randint(1, 60), rng.choice((0, 1, 2, rng.randint(0, 50)))
            falls = sorted(rng.sample(range(1, rng.choice((25, 200))), rng.randint(0, 20)))
            times = [plain(work, every, cost, falls)[0] for every in range(1, work + 1)]
            self.assertEqual(least_every(work, cost, falls), times.index(min(times)) + 1)
            equals += times.count(min(times)) > 1
        self.assertGreater(equals, 30)

    def test_great_ones(self):
        falls = tuple(range(10, 210, 10))
        found = least_every(200, 50, falls)
        times = [time_with_falls(200, every, 50, falls) for every in range(1, 201)]
        self.assertEqual(found, times.index(min(times)) + 1)


if __name__ == "__main__":
    unittest.main()
