"""[14], [38]: least spans, efficiency, and the portions for it."""

import unittest
from fractions import Fraction
from math import gcd

from samples import any_values_but, dice, some_schedule
from stagesfull.errors import InvalidNumber
from stagesfull.leasts import efficiency, least_span, least_span_many, portions_for
from stagesfull.rules import fill_and_drain, one_and_one
from stagesfull.schedules import kept_at_most
from stagesfull.times import idle, span, starts


def turns(machines, portions, under):
    return machines * ((portions - 1) // under) + machines + (portions - 1) % under


def all_counts():
    for machines in range(1, 5):
        for portions in range(1, 9):
            for under in range(1, machines + 1):
                yield machines, portions, under


class Leasts(unittest.TestCase):
    def test_by_hand(self):
        self.assertEqual(least_span(2, 3, 2, 1, 2), 12)
        self.assertEqual(least_span(4, 8, 3, 2, 5), (4 * 2 + 4 + 1) * 7)
        self.assertEqual(least_span(back=100, forth=1, under=1, portions=1, machines=1), 101)
        self.assertEqual(least_span_many(2, 4, 3, 1, 2), (3 * 2 + 1) * 3)
        self.assertEqual(least_span_many(4, 4, 2, 1, 2), (4 + 1) * 3)
        self.assertEqual(least_span_many(back=2, forth=1, portions=1, stages=12, machines=3), (3 * 4) * 3)

    def test_all_counts(self):
        for machines, portions, under in all_counts():
            for forth, back in ((1, 1), (1, 2), (7, 3), (100, 100)):
                self.assertEqual(least_span(machines, portions, under, forth, back),
                                 turns(machines, portions, under) * (forth + back))

    def test_one_and_one_has_this_span(self):
        for machines, portions, under in all_counts():
            for forth, back in ((1, 1), (1, 2), (7, 3), (100, 1)):
                schedule = one_and_one(machines, portions, under)
                times = ((forth,) * machines, (back,) * machines)
                self.assertEqual(span(schedule, *times), least_span(machines, portions, under, forth, back))
                # At most under portions are under way, from their first deed to their last.
                begins = {deed: begin for row, of_row in zip(schedule.rows, starts(schedule, *times))
                          for deed, begin in zip(row, of_row)}
                ways = [(begins["f", k, 0], begins["b", k, 0] + back) for k in range(portions)]
                for moment, _ in ways:
                    self.assertLessEqual(sum(1 for low, high in ways if low <= moment < high), under)

    def test_fill_and_drain_has_this_span(self):
        for machines in range(1, 5):
            for stages in range(machines, 13, machines):
                for portions in range(1, 9):
                    for forth, back in ((1, 1), (2, 3), (9, 4)):
                        least = least_span_many(machines, stages, portions, forth, back)
                        schedule = fill_and_drain(machines, stages, portions)
                        self.assertEqual(span(schedule, (forth,) * stages, (back,) * stages), least)

    def test_no_schedule_has_a_lower_span(self):
        rng = dice(1)
        for _ in range(300):
            schedule = some_schedule(rng)
            forth, back = rng.randint(1, 5), rng.randint(1, 5)
            times = ((forth,) * schedule.stages, (back,) * schedule.stages)
            least = least_span_many(schedule.machines, schedule.stages, schedule.portions, forth, back)
            self.assertGreaterEqual(span(schedule, *times), least)
            if schedule.machines == schedule.stages:
                all_of_them = least_span(schedule.machines, schedule.portions, schedule.machines, forth, back)
                self.assertGreaterEqual(span(schedule, *times), all_of_them)
                if span(schedule, *times) == all_of_them:
                    for stage, kept in enumerate(kept_at_most(schedule)):
                        self.assertGreaterEqual(kept, min(schedule.portions, schedule.machines - stage))

    def test_how_many_are_kept(self):
        for machines, portions, under in all_counts():
            if under == machines:
                wanted = tuple(min(portions, machines - stage) for stage in range(machines))
                self.assertEqual(kept_at_most(one_and_one(machines, portions, under)), wanted)


class Efficiency(unittest.TestCase):
    def test_by_hand(self):
        self.assertEqual(efficiency(2, 3, 2), (3, 4))
        self.assertEqual(efficiency(4, 4, 2), (4, 9))
        self.assertEqual(efficiency(2, 2, 1), (1, 2))
        self.assertEqual(efficiency(under=1, portions=8, machines=1), (1, 1))

    def test_share_of_the_machines_time(self):
        for machines, portions, under in all_counts():
            over, below = efficiency(machines, portions, under)
            schedule = one_and_one(machines, portions, under)
            forth, back = (2,) * machines, (3,) * machines
            until = span(schedule, forth, back) * machines
            self.assertEqual(Fraction(over, below), Fraction(until - sum(idle(schedule, forth, back)), until))
            self.assertEqual(gcd(over, below), 1)
            self.assertGreater(below, 0)
            self.assertIs(type(over), int)
            self.assertIs(type(below), int)
            self.assertIsInstance(efficiency(machines, portions, under), tuple)

    def test_portions_for_by_hand(self):
        self.assertEqual(portions_for(2, 2, 3, 4), 3)
        self.assertEqual(portions_for(2, 1, 1, 2), 1)
        self.assertIsNone(portions_for(2, 1, 51, 100))
        self.assertIsNone(portions_for(4, 2, 1, 2))
        self.assertEqual(portions_for(4, 4, 0, 1), 1)
        self.assertEqual(portions_for(1, 1, 99, 100), 1)
        self.assertEqual(portions_for(below=100, over=99, under=4, machines=4), 297)

    def test_portions_for_against_a_search(self):
        for machines in range(1, 5):
            for under in range(1, machines + 1):
                shares = [Fraction(m, turns(machines, m, under)) for m in range(1, 1700)]
                for below in (1, 2, 3, 4, 5, 7, 8, 12, 25, 64, 99, 100):
                    for over in range(below):
                        wanted = next((m for m, share in enumerate(shares, 1) if share * below >= over), None)
                        self.assertEqual(portions_for(machines, under, over, below), wanted,
                                         (machines, under, over, below))


class WrongNumbers(unittest.TestCase):
    def check(self, asked, given, wrong):
        with self.assertRaises(InvalidNumber) as caught:
            asked(*given)
        self.assertIs(caught.exception.number, wrong)

    def test_least_span_and_efficiency(self):
        for asked, more in ((least_span, (1, 2)), (efficiency, ())):
            for value in [0, 5, *any_values_but(1)]:
                self.check(asked, (value, 2, 1, *more), value)
                self.check(asked, (value, None, "x", *more), value)
            for value in [0, 9, *any_values_but(1)]:
                self.check(asked, (2, value, 1, *more), value)
                self.check(asked, (2, value, 3, *more), value)
            for machines in range(1, 5):
                for value in [0, -1, machines + 1, 8, *any_values_but(1)]:
                    self.check(asked, (machines, 3, value, *more), value)

    def test_least_span_many(self):
        for value in [0, 5, *any_values_but(1)]:
            self.check(least_span_many, (value, 2, 2, 1, 1), value)
            self.check(least_span_many, (value, None, "x", 1, 1), value)
        for value in [0, 1, 3, 13, 14, *any_values_but(2)]:
            self.check(least_span_many, (2, value, 2, 1, 1), value)
            self.check(least_span_many, (2, value, 9, 1, 1), value)
        for value in [0, 9, *any_values_but(1)]:
            self.check(least_span_many, (2, 2, value, 1, 1), value)


if __name__ == "__main__":
    unittest.main()
