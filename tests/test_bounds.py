"""[24]: the bound below all spans, and the machine that makes it."""

import unittest

from samples import FEW, all_lawful_rows, all_tuples, dice, timed_schedules
from stagesfull.bounds import bottleneck
from stagesfull.leasts import least_span_many
from stagesfull.rules import fill_and_drain
from stagesfull.schedules import Schedule
from stagesfull.times import span


def plain_sums(machines, stages, portions, forth, back, wait):
    """For each machine its sum, straight from the document's words."""
    sums = []
    for q in range(machines):
        total = 2 * q * wait
        for stage in range(stages):
            if stage < q:
                total += forth[stage] + back[stage]
            if stage % machines == q:
                total += portions * (forth[stage] + back[stage])
        sums.append(total)
    return sums


def one_alone(machines, stages, forth, back, wait):
    """How long one portion's way alone takes."""
    total = sum(forth) + sum(back)
    for stage in range(stages - 1):
        if stage % machines != (stage + 1) % machines:
            total += 2 * wait
    return total


def plain_bound(machines, stages, portions, forth, back, wait):
    sums = plain_sums(machines, stages, portions, forth, back, wait)
    alone = one_alone(machines, stages, forth, back, wait)
    best = (max(sums), min(q for q in range(machines) if sums[q] == max(sums)))
    return (alone, None) if alone > best[0] else best


class ByHand(unittest.TestCase):
    def test_each_machine(self):
        # 2 * 4 on machine 0; on machine 1 it is 4 ahead and behind, and 2 * 6.
        self.assertEqual(bottleneck(2, 2, 2, (1, 2), (3, 4)), (16, 1))
        self.assertEqual(bottleneck(2, 2, 2, (9, 2), (3, 4)), (24, 0))
        self.assertEqual(bottleneck(3, 3, 4, (1, 9, 1), (1, 1, 1)), (42, 1))
        self.assertEqual(bottleneck(1, 3, 2, (1, 2, 3), (4, 5, 6)), (42, 0))

    def test_wait(self):
        self.assertEqual(bottleneck(2, 2, 2, (1, 2), (3, 4), wait=5), (26, 1))
        self.assertEqual(bottleneck(3, 3, 4, (1, 9, 1), (1, 1, 1), wait=3), (48, 1))
        self.assertEqual(bottleneck(3, 3, 4, (1, 9, 1), (1, 1, 1), wait=20), (100, 2))
        # No letters on one machine.
        self.assertEqual(bottleneck(1, 3, 2, (1, 2, 3), (4, 5, 6), wait=20), (42, 0))

    def test_stages_that_share_a_machine(self):
        # Machine 0 has stages 0 and 2; ahead of machine 1 there is stage 0 alone.
        self.assertEqual(bottleneck(2, 4, 3, (1, 2, 3, 4), (5, 6, 7, 8)), (6 + 3 * 20, 1))
        self.assertEqual(bottleneck(2, 4, 3, (1, 2, 9, 1), (5, 6, 7, 3)), (3 * 22, 0))

    def test_the_lowest_of_equal_ones(self):
        self.assertEqual(bottleneck(2, 2, 2, (3, 1), (3, 2)), (12, 0))
        self.assertEqual(bottleneck(3, 3, 3, (1, 4, 1), (1, 2, 1)), (20, 1))
        # Machine 1: 4 + 2 * 6; machine 2: 4 + 6 + 2 * 3.
        self.assertEqual(bottleneck(3, 3, 2, (2, 3, 1), (2, 3, 2)), (16, 1))

    def test_one_portion(self):
        # Behind the last stage nothing waits: its machine's sum is the whole way.
        self.assertEqual(bottleneck(3, 3, 1, (1, 2, 3), (4, 5, 6)), (21, 2))
        self.assertEqual(bottleneck(3, 3, 1, (1, 2, 3), (4, 5, 6), wait=7), (49, 2))
        # With two stages on each machine no machine's sum has all of it.
        self.assertEqual(bottleneck(2, 4, 1, (1, 1, 1, 1), (2, 2, 2, 2)), (12, None))
        self.assertEqual(bottleneck(2, 4, 1, (1, 1, 1, 1), (2, 2, 2, 2), wait=5), (12 + 30, None))
        self.assertEqual(bottleneck(1, 4, 1, (1, 1, 1, 1), (2, 2, 2, 2), wait=5), (12, 0))

    def test_the_way_alone_must_be_greater(self):
        # Two portions on machine 1: 3 + 2 * 6, the way alone: 12 and three times two waits.
        given = (2, 4, 2, (1, 1, 1, 1), (2, 2, 2, 2))
        self.assertEqual([bottleneck(*given, wait=wait) for wait in range(3)], [(15, 1), (18, None), (24, None)])
        # One portion alone takes 13 and 6 waits, just as long as machine 1: 3 + 2 * 7 and 2 waits.
        given = (2, 4, 2, (1, 1, 1, 2), (2, 2, 2, 2))
        self.assertEqual(plain_sums(*given, 1), [12, 19])
        self.assertEqual(one_alone(2, 4, *given[3:], 1), 19)
        self.assertEqual(bottleneck(*given, wait=1), (19, 1))

    def test_names_of_the_arguments(self):
        self.assertEqual(bottleneck(wait=5, back=[3, 4], forth=[1, 2], portions=2, stages=2, machines=2), (26, 1))
        with self.assertRaises(TypeError):
            bottleneck(2, 2, 2, (1, 2), (3, 4), 5)


class AgainstTheSums(unittest.TestCase):
    def test_any_numbers(self):
        rng = dice(1)
        alone = ties = 0
        for _ in range(3000):
            machines = rng.randint(1, 4)
            stages = machines * rng.randint(1, 12 // machines)
            portions = rng.choice((1, 1, 2, rng.randint(1, 8)))
            most = rng.choice((1, 2, 9, 100))
            forth = [rng.randint(1, most) for _ in range(stages)]
            back = [rng.randint(1, most) for _ in range(stages)]
            wait = rng.choice((0, 1, rng.randint(0, 20)))
            lists = [list(forth), list(back)]
            found = bottleneck(machines, stages, portions, forth, back, wait=wait)
            self.assertEqual(found, plain_bound(machines, stages, portions, forth, back, wait))
            self.assertTrue(all_tuples(found))
            self.assertEqual([forth, back], lists)
            if wait == 0:
                self.assertEqual(bottleneck(machines, stages, portions, tuple(forth), tuple(back)), found)
            sums = plain_sums(machines, stages, portions, forth, back, wait)
            alone += found[1] is None
            ties += sums.count(max(sums)) > 1
        self.assertGreater(alone, 100)
        self.assertGreater(ties, 10)


class NoSpanIsBelow(unittest.TestCase):
    def test_all_lawful_schedules_of_few_deeds(self):
        rng = dice(2)
        reached = 0
        for machines, stages, portions in FEW:
            schedules = [Schedule(machines, stages, portions, rows)
                         for rows in all_lawful_rows(machines, stages, portions)]
            for _ in range(6 if len(schedules) < 1000 else 1):
                forth = [rng.randint(1, 9) for _ in range(stages)]
                back = [rng.randint(1, 9) for _ in range(stages)]
                for wait in (0, rng.randint(1, 9)):
                    bound = bottleneck(machines, stages, portions, forth, back, wait=wait)[0]
                    least = min(span(schedule, forth, back, wait=wait) for schedule in schedules)
                    self.assertLessEqual(bound, least)
                    reached += bound == least
        self.assertGreater(reached, 20)

    def test_some_schedules(self):
        for schedule, forth, back, wait in timed_schedules(dice(3), 200, 8):
            counts = (schedule.machines, schedule.stages, schedule.portions)
            bound = bottleneck(*counts, forth, back, wait=wait)[0]
            self.assertLessEqual(bound, span(schedule, forth, back, wait=wait))

    def test_equal_times_and_a_stage_on_each_machine(self):
        for machines in range(1, 5):
            for portions in range(1, 9):
                times = ((2,) * machines, (3,) * machines)
                # The last machine waits for 5 * (machines - 1), and then works without a pause.
                wanted = (5 * (machines - 1 + portions), machines - 1)
                self.assertEqual(bottleneck(machines, machines, portions, *times), wanted)
                self.assertEqual(least_span_many(machines, machines, portions, 2, 3), wanted[0])
                self.assertEqual(span(fill_and_drain(machines, machines, portions), *times), wanted[0])


if __name__ == "__main__":
    unittest.main()
