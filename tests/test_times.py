"""[13]: when deeds begin, spans, chains and idle times."""

import unittest

from samples import (all_tuples, as_lists, dice, lets_of, plain_begins, some_schedule, time_of,
                     timed_schedules, wait_between)
from stagesfull.rules import fill_and_drain, one_and_one, read_rows
from stagesfull.schedules import Schedule
from stagesfull.times import chain, idle, span, starts


def samples():
    return timed_schedules(dice(1), 150, 5)


class Times(unittest.TestCase):
    def test_the_documents_example(self):
        self.assertEqual(span(one_and_one(2, 3, 2), (1, 1), (2, 2)), 12)

    def test_by_hand(self):
        schedule = one_and_one(2, 2, 2)
        self.assertEqual(schedule.rows, read_rows("f0.0 f1.0 b0.0 b1.0\nf0.1 b0.1 f1.1 b1.1\n"))
        self.assertEqual(starts(schedule, (1, 2), (3, 4)), ((0, 1, 7, 13), (1, 3, 7, 9)))
        self.assertEqual(span(schedule, (1, 2), (3, 4)), 16)
        self.assertEqual(idle(schedule, (1, 2), (3, 4)), (16 - 8, 16 - 12))
        self.assertEqual(chain(schedule, (1, 2), (3, 4)),
                         (("f", 0, 0), ("f", 0, 1), ("b", 0, 1), ("f", 1, 1), ("b", 1, 1), ("b", 1, 0)))

    def test_by_hand_with_wait(self):
        schedule = one_and_one(2, 1, 1)
        self.assertEqual(starts(schedule, (1, 2), (3, 4), wait=10), ((0, 27), (11, 13)))
        self.assertEqual(span(schedule, (1, 2), (3, 4), wait=10), 30)
        self.assertEqual(idle(schedule, (1, 2), (3, 4), wait=10), (26, 24))
        self.assertEqual(chain(schedule, (1, 2), (3, 4), wait=10),
                         (("f", 0, 0), ("f", 0, 1), ("b", 0, 1), ("b", 0, 0)))

    def test_no_wait_on_one_machine(self):
        schedule = fill_and_drain(1, 3, 2)
        self.assertEqual(span(schedule, (1, 2, 3), (4, 5, 6), wait=20), 42)
        self.assertEqual(idle(schedule, (1, 2, 3), (4, 5, 6), wait=20), (0,))

    def test_names_of_the_arguments(self):
        schedule = one_and_one(1, 1, 1)
        self.assertEqual(starts(wait=1, back=[2], forth=[1], schedule=schedule), ((0, 1),))
        self.assertEqual(span(wait=1, back=[2], forth=[1], schedule=schedule), 3)
        self.assertEqual(chain(wait=1, back=[2], forth=[1], schedule=schedule), (("f", 0, 0), ("b", 0, 0)))
        self.assertEqual(idle(wait=1, back=[2], forth=[1], schedule=schedule), (0,))
        for asked in (starts, span, chain, idle):
            with self.assertRaises(TypeError):
                asked(schedule, [1], [2], 1)

    def test_starts_span_and_idle(self):
        for schedule, forth, back, wait in samples():
            begins = plain_begins(schedule, forth, back, wait)
            wanted = tuple(tuple(begins[deed] for deed in row) for row in schedule.rows)
            most = max(begins[deed] + time_of(deed, forth, back) for deed in begins)
            less = tuple(most - sum(time_of(deed, forth, back) for deed in row) for row in schedule.rows)
            self.assertEqual(starts(schedule, forth, back, wait=wait), wanted)
            self.assertEqual(span(schedule, forth, back, wait=wait), most)
            self.assertEqual(idle(schedule, forth, back, wait=wait), less)
            if wait == 0:
                self.assertEqual(starts(schedule, tuple(forth), tuple(back)), wanted)
                self.assertEqual(span(schedule, tuple(forth), tuple(back)), most)
                self.assertEqual(idle(schedule, tuple(forth), tuple(back)), less)
            self.assertTrue(all_tuples(starts(schedule, forth, back, wait=wait)))
            self.assertTrue(all_tuples(idle(schedule, forth, back, wait=wait)))

    def test_chains(self):
        for schedule, forth, back, wait in samples():
            begins = plain_begins(schedule, forth, back, wait)
            most = span(schedule, forth, back, wait=wait)
            last = next(row[-1] for row in schedule.rows
                        if begins[row[-1]] + time_of(row[-1], forth, back) == most)
            wanted = [last]
            while begins[wanted[0]] > 0:
                wanted.insert(0, next(
                    one for one in lets_of(schedule, wanted[0])
                    if begins[one] + time_of(one, forth, back)
                    + wait_between(schedule, one, wanted[0], wait) == begins[wanted[0]]))
            lists = as_lists([forth, back])
            found = chain(schedule, forth, back, wait=wait)
            self.assertEqual(found, tuple(wanted))
            self.assertEqual([forth, back], lists)
            self.assertTrue(all_tuples(found))
            # It is as long as the span.
            total = sum(time_of(deed, forth, back) for deed in found)
            total += sum(wait_between(schedule, one, other, wait) for one, other in zip(found, found[1:]))
            self.assertEqual(total, most)
            if wait == 0:
                self.assertEqual(chain(schedule, forth, back), found)

    def test_the_span_is_the_longest_row_of_needs(self):
        rng = dice(2)
        for _ in range(60):
            machines, stages, portions = rng.choice(((1, 1, 2), (1, 2, 2), (2, 2, 2), (2, 4, 1), (3, 3, 2)))
            schedule = some_schedule(rng, machines, stages, portions)
            forth = [rng.randint(1, 9) for _ in range(stages)]
            back = [rng.randint(1, 9) for _ in range(stages)]
            wait = rng.randint(0, 9)
            sums = []
            rows = [[deed] for row in schedule.rows for deed in row]
            while rows:
                row = rows.pop()
                sums.append(sum(time_of(deed, forth, back) for deed in row)
                            + sum(wait_between(schedule, one, other, wait) for one, other in zip(row, row[1:])))
                rows += [[one, *row] for one in lets_of(schedule, row[0])]
            self.assertEqual(span(schedule, forth, back, wait=wait), max(sums))

    def test_chain_ends_where_the_span_ends(self):
        for schedule, forth, back, wait in samples():
            begins = plain_begins(schedule, forth, back, wait)
            found = chain(schedule, forth, back, wait=wait)
            self.assertEqual(begins[found[0]], 0)
            self.assertEqual(begins[found[-1]] + time_of(found[-1], forth, back),
                             span(schedule, forth, back, wait=wait))

    def test_chain_takes_the_deed_ahead_first(self):
        # ("f", 1, 1) is let begin at 2 by ("f", 0, 1) ahead of it and by ("f", 1, 0), which it needs.
        schedule = fill_and_drain(2, 2, 2)
        self.assertEqual(starts(schedule, (1, 1), (1, 1))[1][1], 2)
        self.assertEqual(chain(schedule, (1, 1), (1, 1))[:4],
                         (("f", 0, 0), ("f", 0, 1), ("f", 1, 1), ("b", 1, 1)))


if __name__ == "__main__":
    unittest.main()
