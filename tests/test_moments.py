"""[39]: what happens when, and what is under way at a moment."""

import unittest

from samples import all_tuples, as_lists, dice, some_schedule
from stagesfull.moments import busy_at, events, most_under_way, portions_at
from stagesfull.rules import fill_and_drain, one_and_one
from stagesfull.schedules import Schedule
from stagesfull.times import span, starts

F00, F10, F01, F11 = ("f", 0, 0), ("f", 1, 0), ("f", 0, 1), ("f", 1, 1)
B00, B10, B01, B11 = ("b", 0, 0), ("b", 1, 0), ("b", 0, 1), ("b", 1, 1)


def plain_times(schedule, forth, back, wait):
    """For each deed its machine, beginning and end."""
    found = {}
    for machine, (row, begins) in enumerate(zip(schedule.rows, starts(schedule, forth, back, wait=wait))):
        for deed, begin in zip(row, begins):
            found[deed] = (machine, begin, begin + (forth if deed[0] == "f" else back)[deed[2]])
    return found


def samples():
    rng = dice(1)
    for _ in range(25):
        schedule = some_schedule(rng, None, None, rng.randint(1, 4))
        most = rng.choice((1, 3, 9))
        forth = [rng.randint(1, most) for _ in range(schedule.stages)]
        back = [rng.randint(1, most) for _ in range(schedule.stages)]
        for wait in (0, rng.randint(1, 20)):
            yield schedule, forth, back, wait


class ByHand(unittest.TestCase):
    # Beginnings (0, 1, 7, 13) and (1, 3, 7, 9), as tests/test_times.py has them.
    given = (one_and_one(2, 2, 2), (1, 2), (3, 4))

    def test_events(self):
        self.assertEqual(events(*self.given), (
            (0, 1, 0, F00), (1, 0, 0, F00), (1, 1, 0, F10), (1, 1, 1, F01), (2, 0, 0, F10), (3, 0, 1, F01),
            (3, 1, 1, B01), (7, 0, 1, B01), (7, 1, 0, B00), (7, 1, 1, F11), (9, 0, 1, F11), (9, 1, 1, B11),
            (10, 0, 0, B00), (13, 0, 1, B11), (13, 1, 0, B10), (16, 0, 0, B10)))

    def test_events_with_wait(self):
        self.assertEqual(events(one_and_one(2, 1, 1), (1, 2), (3, 4), wait=10), (
            (0, 1, 0, F00), (1, 0, 0, F00), (11, 1, 1, F01), (13, 0, 1, F01), (13, 1, 1, B01), (17, 0, 1, B01),
            (27, 1, 0, B00), (30, 0, 0, B00)))

    def test_busy_at(self):
        wanted = {0: (F00, None), 1: (F10, F01), 2: (None, F01), 3: (None, B01), 6: (None, B01), 7: (B00, F11),
                  8: (B00, F11), 9: (B00, B11), 10: (None, B11), 12: (None, B11), 13: (B10, None),
                  15: (B10, None), 16: (None, None), 17: (None, None), 1000: (None, None)}
        for moment, deeds in wanted.items():
            self.assertEqual(busy_at(*self.given, moment), deeds)

    def test_portions_at(self):
        wanted = {0: (0,), 1: (0, 1), 2: (0, 1), 9: (0, 1), 10: (1,), 12: (1,), 13: (1,), 15: (1,), 16: (), 99: ()}
        for moment, portions in wanted.items():
            self.assertEqual(portions_at(*self.given, moment), portions)
        # Between its deeds a portion is under way, too.
        given = (one_and_one(2, 1, 1), (1, 2), (3, 4))
        self.assertEqual([portions_at(*given, moment, wait=10) for moment in (0, 1, 5, 10, 20, 29, 30, 31)],
                         [(0,)] * 6 + [()] * 2)

    def test_most_under_way(self):
        self.assertEqual(most_under_way(*self.given), 2)
        # Portion 1 begins just when portion 0 has ended.
        for machines in range(1, 5):
            times = ((1,) * machines, (1,) * machines)
            self.assertEqual(most_under_way(one_and_one(machines, 5, 1), *times), 1)
            self.assertEqual(most_under_way(one_and_one(machines, 5, machines), *times), machines)
            self.assertEqual(most_under_way(fill_and_drain(machines, machines, 5), *times), 5)

    def test_portions_in_another_order(self):
        rows = (("f", 1, 0), ("f", 0, 0), ("b", 1, 0), ("b", 0, 0))
        schedule = Schedule(1, 1, 2, [rows])
        self.assertEqual([portions_at(schedule, [1], [1], moment) for moment in range(5)],
                         [(1,), (0, 1), (0, 1), (0,), ()])
        self.assertEqual(most_under_way(schedule, [1], [1]), 2)

    def test_names_of_the_arguments(self):
        named = {"schedule": one_and_one(1, 1, 1), "forth": [1], "back": [2], "wait": 5}
        self.assertEqual(events(**named), ((0, 1, 0, F00), (1, 0, 0, F00), (1, 1, 0, B00), (3, 0, 0, B00)))
        self.assertEqual(busy_at(moment=1, **named), (B00,))
        self.assertEqual(portions_at(moment=2, **named), (0,))
        self.assertEqual(most_under_way(**named), 1)
        for asked, more in ((events, ()), (busy_at, (0,)), (portions_at, (0,)), (most_under_way, ())):
            with self.assertRaises(TypeError):
                asked(one_and_one(1, 1, 1), [1], [2], *more, 1)


class AgainstTheTimes(unittest.TestCase):
    def test_events(self):
        for schedule, forth, back, wait in samples():
            wanted = []
            for deed, (machine, begin, end) in plain_times(schedule, forth, back, wait).items():
                wanted += [(begin, 1, machine, deed), (end, 0, machine, deed)]
            lists = as_lists([forth, back])
            found = events(schedule, forth, back, wait=wait)
            self.assertEqual(found, tuple(sorted(wanted)))
            self.assertTrue(all_tuples(found))
            self.assertEqual([forth, back], lists)
            if wait == 0:
                self.assertEqual(events(schedule, tuple(forth), tuple(back)), found)

    def test_each_moment(self):
        for schedule, forth, back, wait in samples():
            times = plain_times(schedule, forth, back, wait)
            most = []
            for moment in range(span(schedule, forth, back, wait=wait) + 2):
                busy = [None] * schedule.machines
                for deed, (machine, begin, end) in times.items():
                    if begin <= moment < end:
                        self.assertIsNone(busy[machine])
                        busy[machine] = deed
                portions = []
                for portion in range(schedule.portions):
                    own = [times[deed] for deed in times if deed[1] == portion]
                    if min(begin for _, begin, _ in own) <= moment < max(end for _, _, end in own):
                        portions.append(portion)
                most.append(len(portions))
                self.assertEqual(busy_at(schedule, forth, back, moment, wait=wait), tuple(busy))
                self.assertEqual(portions_at(schedule, forth, back, moment, wait=wait), tuple(portions))
                if wait == 0:
                    self.assertEqual(busy_at(schedule, forth, back, moment), tuple(busy))
                    self.assertEqual(portions_at(schedule, forth, back, moment), tuple(portions))
            self.assertEqual(most_under_way(schedule, forth, back, wait=wait), max(most))
            if wait == 0:
                self.assertEqual(most_under_way(schedule, forth, back), max(most))
            self.assertEqual(most[-2:], [0, 0])


if __name__ == "__main__":
    unittest.main()
