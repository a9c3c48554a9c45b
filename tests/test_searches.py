"""[15], [30]: least times that are found by looking."""

import unittest

from samples import FEW, all_lawful_rows, any_values_but, dice, plain_least
from stagesfull.errors import InvalidNumber, TooMany
from stagesfull.leasts import least_span, least_span_many
from stagesfull.schedules import Schedule
from stagesfull.searches import least_found, least_of_tables
from stagesfull.times import span


class LeastFound(unittest.TestCase):
    def test_by_hand(self):
        self.assertEqual(least_found(1, 1, 1, 1, 1, 2), 3)
        self.assertEqual(least_found(2, 2, 2, 2, 1, 2), 9)
        self.assertEqual(least_found(2, 2, 2, 1, 1, 2), 12)
        self.assertEqual(least_found(back=3, forth=1, under=1, portions=1, stages=4, machines=2), 16)

    def test_the_formulas(self):
        for machines, stages, portions in FEW:
            for under in range(1, portions + 1):
                for forth in (1, 2, 3):
                    for back in (1, 2, 3):
                        found = least_found(machines, stages, portions, under, forth, back)
                        if machines == stages and under <= machines:
                            self.assertEqual(found, least_span(machines, portions, under, forth, back))
                        if under == portions:
                            self.assertEqual(found, least_span_many(machines, stages, portions, forth, back))

    def test_a_plain_search(self):
        for machines, stages, portions in FEW:
            for under in range(1, portions + 1):
                for forth in (1, 2, 3):
                    for back in (1, 2, 3):
                        given = (machines, stages, portions, under, forth, back)
                        found = least_found(*given)
                        self.assertEqual(found, plain_least(*given), given)
                        self.assertIs(type(found), int)

    def test_somewhat_more(self):
        for machines, stages, portions, under in ((2, 2, 3, 1), (2, 2, 3, 2), (2, 2, 4, 3), (3, 3, 2, 2),
                                                  (2, 4, 2, 1), (2, 4, 2, 2), (4, 4, 2, 2), (4, 8, 1, 1)):
            for forth, back in ((1, 1), (1, 3), (3, 2)):
                given = (machines, stages, portions, under, forth, back)
                self.assertEqual(least_found(*given), plain_least(*given), given)

    def test_too_many(self):
        for machines in range(1, 5):
            for stages in range(machines, 13, machines):
                for portions in range(1, 9):
                    if stages * portions <= 8:
                        continue
                    for under in (1, portions):
                        with self.assertRaises(TooMany) as caught:
                            least_found(machines, stages, portions, under, 1, 2)
                        self.assertEqual(caught.exception.many, stages * portions)


class LeastOfTables(unittest.TestCase):
    def test_by_hand(self):
        self.assertEqual(least_of_tables(1, 1, 2, (3,), (4,)), 14)
        self.assertEqual(least_of_tables(1, 1, 2, (3,), (4,), wait=9), 14)
        self.assertEqual(least_of_tables(2, 2, 1, (1, 2), (3, 4)), 10)
        self.assertEqual(least_of_tables(2, 2, 1, (1, 2), (3, 4), wait=10), 30)
        # Machine 1 begins at 2, works 6, and stage 0 takes 1 more for the way back.
        self.assertEqual(least_of_tables(wait=0, back=[1, 2], forth=[2, 1], portions=2, stages=2, machines=2), 9)

    def test_the_spans_of_all_lawful_schedules(self):
        rng = dice(1)
        for machines, stages, portions in FEW:
            schedules = [Schedule(machines, stages, portions, rows)
                         for rows in all_lawful_rows(machines, stages, portions)]
            for _ in range(20 if len(schedules) < 1000 else 1):
                most = rng.choice((2, 9, 100))
                forth = [rng.randint(1, most) for _ in range(stages)]
                back = [rng.randint(1, most) for _ in range(stages)]
                for wait in (0, rng.choice((1, 5, 20))):
                    wanted = min(span(schedule, forth, back, wait=wait) for schedule in schedules)
                    lists = [list(forth), list(back)]
                    found = least_of_tables(machines, stages, portions, forth, back, wait=wait)
                    self.assertEqual(found, wanted, (machines, stages, portions, forth, back, wait))
                    self.assertEqual([forth, back], lists)
                    self.assertIs(type(found), int)
                    if wait == 0:
                        tuples = (tuple(forth), tuple(back))
                        self.assertEqual(least_of_tables(machines, stages, portions, *tuples), wanted)

    def test_wait_by_name_only(self):
        with self.assertRaises(TypeError):
            least_of_tables(1, 1, 1, (1,), (1,), 1)


class Errors(unittest.TestCase):
    def check(self, counts, wrong):
        for more in ({}, {"wait": 3}):
            with self.assertRaises(InvalidNumber) as caught:
                least_of_tables(*counts, (1,) * 12, (1,) * 12, **more)
            self.assertIs(caught.exception.number, wrong)

    def test_counts(self):
        for value in [0, 5, *any_values_but(1)]:
            self.check((value, 1, 1), value)
            self.check((value, None, "x"), value)
            self.check((value, 12, 8), value)
        for value in [0, 1, 3, 13, 14, *any_values_but(2)]:
            self.check((2, value, 1), value)
            self.check((2, value, 9), value)
        for value in [0, 9, *any_values_but(1)]:
            self.check((1, 1, value), value)
            self.check((4, 12, value), value)

    def test_too_many(self):
        for machines in range(1, 5):
            for stages in range(machines, 13, machines):
                for portions in range(1, 9):
                    if stages * portions <= 4:
                        continue
                    with self.assertRaises(TooMany) as caught:
                        least_of_tables(machines, stages, portions, (1,) * stages, (2,) * stages)
                    self.assertEqual(caught.exception.many, stages * portions)


if __name__ == "__main__":
    unittest.main()
