"""[29]: all lawful schedules of few deeds, counted."""

import unittest
from itertools import permutations, product

from samples import FEW, all_deeds, all_lawful_rows, all_tuples, any_values_but, dice, some_schedule
from stagesfull.counts import count_schedules, number_of_schedule, schedule_of_number
from stagesfull.errors import InvalidNumber, InvalidRows, TooMany
from stagesfull.rules import fill_and_drain, one_and_one
from stagesfull.schedules import Schedule

# Numbers of machines, stages and portions that a schedule has, but that are too many.
TOO_MANY = [(machines, stages, portions) for machines in range(1, 5) for stages in range(machines, 13, machines)
            for portions in range(1, 9) if stages * portions > 4]


class Counts(unittest.TestCase):
    def test_by_hand(self):
        # On one machine portions of one stage each: 8! / 2 ** 4 and so on.
        self.assertEqual([count_schedules(1, 1, portions) for portions in range(1, 5)], [1, 6, 90, 2520])
        # Two rows of four deeds, mixed.
        self.assertEqual(count_schedules(portions=2, stages=2, machines=1), 70)
        # One portion has one way.
        for machines, stages, portions in FEW:
            if portions == 1:
                self.assertEqual(count_schedules(machines, stages, portions), 1)
        self.assertEqual([schedule_of_number(1, 1, 2, number).rows[0] for number in range(6)], [
            (("f", 0, 0), ("b", 0, 0), ("f", 1, 0), ("b", 1, 0)),
            (("f", 0, 0), ("f", 1, 0), ("b", 0, 0), ("b", 1, 0)),
            (("f", 0, 0), ("f", 1, 0), ("b", 1, 0), ("b", 0, 0)),
            (("f", 1, 0), ("b", 1, 0), ("f", 0, 0), ("b", 0, 0)),
            (("f", 1, 0), ("f", 0, 0), ("b", 0, 0), ("b", 1, 0)),
            (("f", 1, 0), ("f", 0, 0), ("b", 1, 0), ("b", 0, 0))])

    def test_all_that_may_be(self):
        for counts in FEW:
            wanted = all_lawful_rows(*counts)
            self.assertEqual(count_schedules(*counts), len(wanted), counts)
            for number, rows in enumerate(wanted):
                schedule = schedule_of_number(*counts, number)
                self.assertEqual(schedule.rows, rows)
                self.assertEqual((schedule.machines, schedule.stages, schedule.portions), counts)
                self.assertEqual(number_of_schedule(schedule), number)
                self.assertEqual(number_of_schedule(schedule=Schedule(*counts, rows)), number)

    def test_all_rows_that_a_schedule_takes(self):
        for counts in FEW:
            machines, stages, portions = counts
            if machines == 1 and stages * portions == 4:
                # 8! rows would take long.
                continue
            deeds = [[deed for deed in all_deeds(stages, portions) if deed[2] % machines == machine]
                     for machine in range(machines)]
            found = []
            for rows in product(*map(permutations, deeds)):
                try:
                    found.append(Schedule(*counts, rows).rows)
                except InvalidRows:
                    pass
            self.assertEqual([schedule_of_number(*counts, number).rows for number in range(len(found))],
                             sorted(found))
            self.assertEqual(count_schedules(*counts), len(found))

    def test_told_schedules(self):
        for machines, stages, portions in FEW:
            told = [fill_and_drain(machines, stages, portions)]
            if machines == stages:
                told += [one_and_one(machines, portions, under) for under in range(1, machines + 1)]
            for schedule in told:
                number = number_of_schedule(schedule)
                self.assertEqual(schedule_of_number(machines, stages, portions, number), schedule)

    def test_kinds_of_values(self):
        schedule = schedule_of_number(number=3, portions=2, stages=2, machines=2)
        self.assertIsInstance(schedule, Schedule)
        self.assertTrue(all_tuples(schedule.rows))
        self.assertIs(type(count_schedules(2, 2, 2)), int)
        self.assertIs(type(number_of_schedule(schedule)), int)


class Errors(unittest.TestCase):
    def asked(self, *counts):
        """What counts are asked of, as functions without arguments."""
        yield lambda: count_schedules(*counts)
        for number in (0, -1, 10 ** 9, None, "x", True, [1]):
            yield lambda: schedule_of_number(*counts, number)

    def check(self, counts, wrong):
        for ask in self.asked(*counts):
            with self.assertRaises(InvalidNumber) as caught:
                ask()
            self.assertIs(caught.exception.number, wrong)

    def test_counts(self):
        for value in [0, 5, *any_values_but(1)]:
            self.check((value, 1, 1), value)
            self.check((value, None, "x"), value)
            self.check((value, 12, 8), value)
        for value in [0, 1, 3, 13, 14, *any_values_but(2)]:
            self.check((2, value, 1), value)
            self.check((2, value, 9), value)
        for value in [0, 9, *any_values_but(1)]:
            self.check((1, 1, value), value)
            self.check((4, 12, value), value)

    def test_too_many(self):
        for machines, stages, portions in TOO_MANY:
            for ask in self.asked(machines, stages, portions):
                with self.assertRaises(TooMany) as caught:
                    ask()
                self.assertEqual(caught.exception.many, stages * portions)
        rng = dice(1)
        for machines, stages, portions in rng.sample(TOO_MANY, 30):
            with self.assertRaises(TooMany) as caught:
                number_of_schedule(some_schedule(rng, machines, stages, portions))
            self.assertEqual(caught.exception.many, stages * portions)

    def test_numbers(self):
        for counts in FEW:
            many = count_schedules(*counts)
            fitting = range(many)
            for number in [-1, many, many + 1, *any_values_but(*fitting)]:
                with self.assertRaises(InvalidNumber) as caught:
                    schedule_of_number(*counts, number)
                self.assertIs(caught.exception.number, number)


if __name__ == "__main__":
    unittest.main()
