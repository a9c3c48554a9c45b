"""[28]: spans with longer deeds, and how much longer each deed may take."""

import unittest

from samples import (FEW, all_lawful_rows, all_tuples, as_lists, dice, lets_of, some_schedule, time_of, timed_schedules,
                     wait_between)
from stagesfull.rules import fill_and_drain, one_and_one
from stagesfull.schedules import Schedule, some_order
from stagesfull.slacks import delayed_span, slack
from stagesfull.times import chain, span

F00, F10, F01, F11 = ("f", 0, 0), ("f", 1, 0), ("f", 0, 1), ("f", 1, 1)
B00, B10, B01, B11 = ("b", 0, 0), ("b", 1, 0), ("b", 0, 1), ("b", 1, 1)


def plain_span(schedule, forth, back, extra, wait):
    """The greatest end, deed by deed in one order of all of them."""
    longer = {tuple(deed): number for deed, number in extra}
    ends = {}
    for deed in some_order(schedule):
        begin = max([0, *(ends[one] + wait_between(schedule, one, deed, wait) for one in lets_of(schedule, deed))])
        ends[deed] = begin + time_of(deed, forth, back) + longer.get(deed, 0)
    return max(ends.values())


def some_extra(rng, schedule):
    deeds = [deed for row in schedule.rows for deed in row]
    chosen = rng.sample(deeds, rng.randint(0, min(6, len(deeds))))
    return tuple((deed, rng.choice((0, 1, 3, 50, 10 ** 6))) for deed in chosen)


class ByHand(unittest.TestCase):
    # 01.....aaa...bbb
    # .00aaaa11bbbb...
    given = (one_and_one(2, 2, 2), (1, 2), (3, 4))

    def test_delayed_span(self):
        self.assertEqual(delayed_span(*self.given, ()), 16)
        self.assertEqual(delayed_span(*self.given, []), 16)
        self.assertEqual(delayed_span(*self.given, ((F10, 5),)), 16)
        self.assertEqual(delayed_span(*self.given, ((F10, 6),)), 17)
        self.assertEqual(delayed_span(*self.given, ((F10, 7),)), 18)
        self.assertEqual(delayed_span(*self.given, ((F00, 2), (F10, 5))), 18)
        self.assertEqual(delayed_span(*self.given, ((F00, 2), (F10, 7))), 20)
        self.assertEqual(delayed_span(*self.given, ((F00, 2), (F10, 7), (B00, 0), (B10, 1))), 21)
        self.assertEqual(delayed_span(*self.given, ((B00, 3),)), 16)
        self.assertEqual(delayed_span(*self.given, ((B00, 4),)), 17)

    def test_slack(self):
        self.assertEqual(slack(*self.given), ((0, 5, 3, 0), (0, 0, 0, 0)))

    def test_wait(self):
        given = (one_and_one(2, 2, 2), (1, 1), (1, 1))
        # 01...a.b
        # ..0a1b..
        self.assertEqual(slack(*given, wait=1), ((0, 1, 1, 0), (0, 0, 0, 0)))
        self.assertEqual([delayed_span(*given, ((F10, number),), wait=1) for number in range(4)], [8, 8, 9, 10])
        self.assertEqual(delayed_span(*given, ((F10, 2), (B00, 2)), wait=1), 9)
        # 01..aa2bb.cc
        # .0aa1bb2cc..
        given = (one_and_one(2, 3, 2), (1, 1), (2, 2))
        self.assertEqual(slack(*given), ((0, 2, 0, 0, 1, 0), (0, 0, 0, 0, 0, 0)))
        self.assertEqual(slack(*given, wait=0), slack(*given))
        self.assertEqual(slack(*given, wait=1), ((0, 4, 0, 0, 3, 0), (0, 0, 2, 2, 0, 0)))
        # One machine waits for no letter.
        self.assertEqual(slack(fill_and_drain(1, 2, 1), (1, 2), (3, 4), wait=20), ((0, 0, 0, 0),))
        self.assertEqual(delayed_span(fill_and_drain(1, 2, 1), (1, 2), (3, 4), ((F01, 5),), wait=20), 15)

    def test_what_ends_ahead_of_the_span(self):
        # Machine 1 has done its row long ahead of machine 0.
        rows = ((F00, F10, B00, B10), (F01, F11, B11, B01))
        given = (Schedule(2, 2, 2, rows), (1, 1), (9, 1))
        # 01...aaaaaaaaabbbbbbbbb
        # .01ba..................
        self.assertEqual(span(*given), 23)
        self.assertEqual(slack(*given), ((0, 0, 0, 0), (0, 0, 0, 0)))
        self.assertEqual(slack(fill_and_drain(2, 2, 2), (1, 1), (9, 1)), ((0, 0, 0, 0), (0, 0, 0, 8)))

    def test_names_of_the_arguments(self):
        named = {"schedule": self.given[0], "forth": [1, 2], "back": [3, 4], "wait": 0}
        self.assertEqual(delayed_span(extra=[[["f", 1, 0], 7]], **named), 18)
        self.assertEqual(slack(**named), ((0, 5, 3, 0), (0, 0, 0, 0)))
        with self.assertRaises(TypeError):
            delayed_span(*self.given, (), 1)
        with self.assertRaises(TypeError):
            slack(*self.given, 1)


class DelayedSpan(unittest.TestCase):
    def test_the_schedule_with_longer_deeds(self):
        rng = dice(1)
        for schedule, forth, back, wait in timed_schedules(rng, 150, 5):
            extra = some_extra(rng, schedule)
            wanted = plain_span(schedule, forth, back, extra, wait)
            given = [list(forth), list(back), as_lists(extra)]
            for one in (extra, list(extra), as_lists(extra)):
                self.assertEqual(delayed_span(schedule, forth, back, one, wait=wait), wanted)
            self.assertEqual([forth, back, as_lists(extra)], given)
            if wait == 0:
                self.assertEqual(delayed_span(schedule, tuple(forth), tuple(back), extra), wanted)
            # The sentence in bold.
            least = span(schedule, forth, back, wait=wait)
            self.assertGreaterEqual(wanted, least)
            self.assertLessEqual(wanted, least + sum(number for _, number in extra))
            self.assertEqual(delayed_span(schedule, forth, back, (), wait=wait), least)
            self.assertEqual(span(schedule, forth, back, wait=wait), least)

    def test_all_deeds_of_a_stage(self):
        rng = dice(2)
        for schedule, forth, back, wait in timed_schedules(rng, 60, 4):
            stage, number = rng.randrange(schedule.stages), rng.randint(1, 30)
            longer = [time + number * (at == stage) for at, time in enumerate(back)]
            extra = tuple((("b", portion, stage), number) for portion in range(schedule.portions))
            self.assertEqual(delayed_span(schedule, forth, back, extra, wait=wait),
                             span(schedule, forth, longer, wait=wait))


class Slack(unittest.TestCase):
    def check(self, schedule, forth, back, wait):
        """Much longer keeps the span, and one more does not."""
        least = span(schedule, forth, back, wait=wait)
        found = slack(schedule, forth, back, wait=wait)
        self.assertTrue(all_tuples(found))
        self.assertEqual([len(row) for row in found], [len(row) for row in schedule.rows])
        for row, numbers in zip(schedule.rows, found):
            for deed, number in zip(row, numbers):
                self.assertIs(type(number), int)
                self.assertGreaterEqual(number, 0)
                for more in (0, number, number + 1, number + 5):
                    wanted = least + max(0, more - number)
                    self.assertEqual(plain_span(schedule, forth, back, [(deed, more)], wait), wanted)
                    self.assertEqual(delayed_span(schedule, forth, back, [(deed, more)], wait=wait), wanted)
        for deed in chain(schedule, forth, back, wait=wait):
            machine = deed[2] % schedule.machines
            self.assertEqual(found[machine][schedule.rows[machine].index(deed)], 0)

    def test_some_schedules(self):
        for schedule, forth, back, wait in timed_schedules(dice(3), 12, 3):
            lists = [list(forth), list(back)]
            self.check(schedule, forth, back, wait)
            self.assertEqual([forth, back], lists)
            if wait == 0:
                self.assertEqual(slack(schedule, tuple(forth), tuple(back)), slack(schedule, forth, back))

    def test_small_schedules(self):
        rng = dice(4)
        for machines, stages, portions in FEW:
            rows = all_lawful_rows(machines, stages, portions)
            for one in rng.sample(rows, min(6, len(rows))):
                schedule = Schedule(machines, stages, portions, one)
                for most in (1, 9):
                    forth = [rng.randint(1, most) for _ in range(stages)]
                    back = [rng.randint(1, most) for _ in range(stages)]
                    self.check(schedule, forth, back, rng.choice((0, 0, rng.randint(1, 9))))

    def test_told_schedules(self):
        for machines in (2, 3, 4):
            times = (tuple(range(1, machines + 1)), tuple(range(machines + 1, 1, -1)))
            self.check(one_and_one(machines, 3, machines), *times, 0)
            self.check(fill_and_drain(machines, machines, 2), *times, 2)
        self.check(fill_and_drain(2, 4, 2), (1, 9, 2, 4), (3, 1, 1, 6), 3)

    def test_a_great_schedule(self):
        schedule = some_schedule(dice(5), 4, 12, 8)
        found = slack(schedule, (3,) * 12, (5,) * 12, wait=2)
        least = span(schedule, (3,) * 12, (5,) * 12, wait=2)
        for row, numbers in zip(schedule.rows, found):
            for at in range(0, len(row), 9):
                extra = ((row[at], numbers[at]),)
                self.assertEqual(delayed_span(schedule, (3,) * 12, (5,) * 12, extra, wait=2), least)
                extra = ((row[at], numbers[at] + 1),)
                self.assertEqual(delayed_span(schedule, (3,) * 12, (5,) * 12, extra, wait=2), least + 1)


if __name__ == "__main__":
    unittest.main()
