"""[10], [12]: schedules, what deeds need, one order, and how many portions are kept."""

import unittest
from itertools import permutations, product
from unittest.mock import ANY

from samples import (ANY_VALUES, all_deeds, all_tuples, any_values_but, as_lists, dice, plain_needs,
                     some_rows, some_schedule, spoil)
from stagesfull.errors import InvalidNumber, InvalidRows
from stagesfull.schedules import Schedule, kept_at_most, needs, some_order, under_way

SMALL = (2, 2, 1, ((("f", 0, 0), ("b", 0, 0)), (("f", 0, 1), ("b", 0, 1))))
COUNTS = ((1, 1, 1), (1, 2, 1), (1, 1, 2), (2, 2, 1), (2, 2, 2), (2, 4, 1), (3, 3, 1))


def all_rows(machines, stages, portions):
    """All rows in which each deed stands once, in the row of its machine."""
    own = [[deed for deed in all_deeds(stages, portions) if deed[2] % machines == machine]
           for machine in range(machines)]
    return product(*[permutations(deeds) for deeds in own])


def has_circle(stages, rows):
    """Whether a deed would come after itself; each comes after what it needs and the one ahead of it."""
    ahead = {deed: set(plain_needs(stages, deed)) for row in rows for deed in row}
    for row in rows:
        for first, second in zip(row, row[1:]):
            ahead[second].add(first)
    while ahead:
        free = [deed for deed, others in ahead.items() if not any(other in ahead for other in others)]
        if not free:
            return True
        for deed in free:
            del ahead[deed]
    return False


def is_an_order(schedule, order):
    """Whether all deeds stand there once, behind what they need, and as in the rows."""
    done = []
    for deed in order:
        if not all(one in done for one in plain_needs(schedule.stages, deed)):
            return False
        done.append(deed)
    return all(tuple(deed for deed in order if deed in row) == row for row in schedule.rows) \
        and len(order) == sum(len(row) for row in schedule.rows)


class Schedules(unittest.TestCase):
    def check_refused(self, machines, stages, portions, rows):
        with self.assertRaises(InvalidRows) as caught:
            Schedule(machines, stages, portions, rows)
        self.assertIs(caught.exception.rows, rows)

    def test_all_rows_of_few_deeds(self):
        for counts in COUNTS:
            for rows in all_rows(*counts):
                if has_circle(counts[1], rows):
                    self.check_refused(*counts, rows)
                else:
                    schedule = Schedule(*counts, rows)
                    self.assertEqual((schedule.machines, schedule.stages, schedule.portions), counts)
                    self.assertEqual(schedule.rows, rows)

    def test_larger_schedules(self):
        rng = dice(1)
        for machines, stages, portions in ((1, 12, 8), (2, 12, 8), (3, 12, 8), (4, 12, 8), (4, 4, 8), (3, 9, 1)):
            rows = some_rows(rng, machines, stages, portions)
            self.assertEqual(Schedule(machines, stages, portions, rows).rows, rows)
            for _ in range(20):
                mixed = [list(row) for row in rows]
                row = rng.choice(mixed)
                place = rng.randrange(len(row) - 1)
                row[place], row[place + 1] = row[place + 1], row[place]
                if has_circle(stages, mixed):
                    self.check_refused(machines, stages, portions, mixed)
                else:
                    self.assertEqual(as_lists(Schedule(machines, stages, portions, mixed).rows), as_lists(mixed))

    def test_lists_that_are_changed_afterwards(self):
        rows = as_lists(SMALL[3])
        schedule = Schedule(2, 2, 1, rows)
        self.assertEqual(rows, as_lists(SMALL[3]))
        spoil(rows)
        self.assertEqual(schedule.rows, SMALL[3])
        self.assertTrue(all_tuples(schedule.rows))

    def test_names_of_the_arguments(self):
        schedule = Schedule(rows=SMALL[3], portions=1, stages=2, machines=2)
        self.assertEqual(schedule, Schedule(*SMALL))
        self.assertEqual(needs(deed=("f", 0, 1), schedule=schedule), (("f", 0, 0),))
        self.assertEqual(some_order(schedule=schedule),
                         (("f", 0, 0), ("f", 0, 1), ("b", 0, 1), ("b", 0, 0)))
        self.assertEqual(kept_at_most(schedule=schedule), (1, 1))
        self.assertEqual(under_way(order=some_order(schedule), schedule=schedule), 1)

    def test_equal_and_not(self):
        schedule = Schedule(*SMALL)
        self.assertIs(schedule == Schedule(*as_lists(SMALL)), True)
        self.assertIs(schedule != Schedule(*as_lists(SMALL)), False)
        one = (("f", 0, 0), ("f", 0, 1), ("b", 0, 1), ("b", 0, 0))
        two = (("f", 0, 0), ("f", 1, 0), ("b", 1, 0), ("b", 0, 0))
        turned = (("f", 0, 0), ("f", 1, 0), ("b", 0, 0), ("b", 1, 0))
        schedules = [schedule, Schedule(1, 2, 1, (one,)), Schedule(1, 1, 2, (two,)), Schedule(1, 1, 2, (turned,))]
        for i, first in enumerate(schedules):
            for k, second in enumerate(schedules):
                self.assertIs(first == second, i == k)
                self.assertIs(first != second, i != k)
        # Each of the four counts by itself.
        for name in ("machines", "stages", "portions"):
            other = Schedule(*SMALL)
            setattr(other, name, 3)
            self.assertIs(schedule == other, False)
        for other in [*ANY_VALUES, SMALL, SMALL[3], ANY, object()]:
            self.assertIs(schedule == other, False)
            self.assertIs(schedule != other, True)


class WrongCounts(unittest.TestCase):
    def check(self, machines, stages, portions, rows, wrong):
        with self.assertRaises(InvalidNumber) as caught:
            Schedule(machines, stages, portions, rows)
        self.assertIs(caught.exception.number, wrong)

    def test_machines(self):
        for machines in [0, 5, 12, *any_values_but(1)]:
            for stages, portions, rows in ((2, 1, SMALL[3]), ("x", None, None), (0, 0, ())):
                self.check(machines, stages, portions, rows, machines)

    def test_stages(self):
        for machines in (1, 2, 3, 4):
            fitting = [stages for stages in range(machines, 13) if stages % machines == 0]
            wrong = [number for number in range(-13, 30) if number not in fitting]
            for stages in [*wrong, *any_values_but(1)]:
                self.check(machines, stages, 1, SMALL[3], stages)
                self.check(machines, stages, [], None, stages)

    def test_portions(self):
        for portions in [0, 9, 10, *any_values_but(1)]:
            self.check(2, 2, portions, SMALL[3], portions)
            self.check(2, 2, portions, None, portions)

    def test_all_counts_that_may_be(self):
        rng = dice(2)
        for machines in range(1, 5):
            for stages in range(machines, 13, machines):
                for portions in range(1, 9):
                    rows = some_rows(rng, machines, stages, portions)
                    self.assertEqual(Schedule(machines, stages, portions, rows).rows, rows)


class WrongRows(unittest.TestCase):
    def refuse(self, rows, machines=2, stages=2, portions=1):
        with self.assertRaises(InvalidRows) as caught:
            Schedule(machines, stages, portions, rows)
        self.assertIs(caught.exception.rows, rows)

    def test_any_value(self):
        for rows in [*ANY_VALUES, "ab", {}, {0: 1, 1: 2}]:
            self.refuse(rows)

    def test_any_value_but_the_one_schedule(self):
        right = [[["f", 0, 0], ["b", 0, 0]]]
        for rows in any_values_but(right):
            self.refuse(rows, 1, 1, 1)
        self.assertEqual(Schedule(1, 1, 1, right).rows, ((("f", 0, 0), ("b", 0, 0)),))

    def test_any_value_as_a_row(self):
        for row in any_values_but(SMALL[3][0]):
            self.refuse((SMALL[3][0], row))
            self.refuse([row, SMALL[3][1]])

    def test_any_value_as_a_deed(self):
        for deed in any_values_but(("f", 0, 0), ["f", 0, 0]):
            self.refuse(((deed, ("b", 0, 0)), SMALL[3][1]))
            self.refuse([[*SMALL[3][0], deed], SMALL[3][1]])

    def test_any_value_in_a_deed(self):
        for value in any_values_but("f"):
            self.refuse((((value, 0, 0), ("b", 0, 0)), SMALL[3][1]))
        for value in ANY_VALUES:
            self.refuse(((("f", value, 0), ("b", 0, 0)), SMALL[3][1]))
            self.refuse(((("f", 0, value), ("b", 0, 0)), SMALL[3][1]))
            self.refuse(((("f", 0, 0, value), ("b", 0, 0)), SMALL[3][1]))

    def test_bools_are_no_numbers(self):
        rows = ((("f", 0, 0), ("f", 1, 0), ("b", 0, 0), ("b", 1, 0)),)
        Schedule(1, 1, 2, rows)
        self.refuse(((("f", False, 0), ("f", 1, 0), ("b", 0, 0), ("b", 1, 0)),), 1, 1, 2)
        self.refuse(((("f", 0, 0), ("f", True, 0), ("b", 0, 0), ("b", 1, 0)),), 1, 1, 2)
        self.refuse(((("f", 0, False), ("b", 0, 0)),), 1, 1, 1)

    def test_rows_too_many_or_too_few(self):
        self.refuse((SMALL[3][0],))
        self.refuse((*SMALL[3], ()))
        self.refuse((*SMALL[3], SMALL[3][1]))
        self.refuse(())

    def test_deeds_that_are_missing_double_or_too_many(self):
        one, two = SMALL[3]
        self.refuse((one, two[:1]))
        self.refuse((one[:1], two))
        self.refuse((one[1:], two))
        self.refuse((one + one, two))
        self.refuse((one, (two[0], two[0])))
        self.refuse((one, (two[0], two[0], two[1])))
        self.refuse((one, (two[0], list(two[0]), two[1])))
        self.refuse((one, two + (("f", 1, 1),)))
        self.refuse((one + (("f", 0, 2),), two))
        self.refuse((one, two + (("f", 0, -1),)))
        self.refuse((one, two + (("f", -1, 1),)))
        self.refuse((one, two + (("g", 0, 1),)))
        self.refuse((one, two + (("f", 0),)))

    def test_as_many_deeds_of_other_numbers(self):
        for portion in (-1, 1, 2, 10 ** 399):
            self.refuse(((("f", portion, 0), ("b", portion, 0)),), 1, 1, 1)
            self.refuse(((("f", 0, 0), ("b", 0, 0), ("f", portion, 0), ("b", portion, 0)),), 1, 1, 1)
        for portion in (-1, 2, 3):
            self.refuse(((("f", 0, 0), ("b", 0, 0), ("f", portion, 0), ("b", portion, 0)),), 1, 1, 2)
        for stage in (-1, 1, 2, 10 ** 399):
            self.refuse(((("f", 0, stage), ("b", 0, stage)),), 1, 1, 1)
        for stage in (-1, 2, 3):
            self.refuse(((("f", 0, 0), ("f", 0, stage), ("b", 0, stage), ("b", 0, 0)),), 1, 2, 1)

    def test_a_foreign_deed_in_place_of_each_one(self):
        told = [(1, 1, 1, ((("f", 0, 0), ("b", 0, 0)),)), SMALL,
                (1, 2, 1, ((("f", 0, 0), ("f", 0, 1), ("b", 0, 1), ("b", 0, 0)),)),
                (1, 1, 2, ((("f", 0, 0), ("f", 1, 0), ("b", 1, 0), ("b", 0, 0)),))]
        for machines, stages, portions, rows in told:
            Schedule(machines, stages, portions, rows)
            for number, row in enumerate(rows):
                for place, (way, portion, stage) in enumerate(row):
                    foreign = [(other, portion, stage) for other in ("", "x", "fb", "F", 0, None, [], ("f",))]
                    foreign += [(one, portion, other) for one in "fb" for other in range(-4, 9)
                                if other not in range(stages)]
                    foreign += [(one, other, stage) for one in "fb" for other in (-2, -1, portions, portions + 1)]
                    for deed in foreign:
                        other = [list(one) for one in rows]
                        other[number][place] = deed
                        self.refuse(other, machines, stages, portions)

    def test_rows_of_other_machines(self):
        one, two = SMALL[3]
        self.refuse((two, one))
        self.refuse((one + two, ()))
        self.refuse((("f", 0, 0), ("f", 0, 1), ("b", 0, 1), ("b", 0, 0)), 2, 2, 1)
        self.refuse(((("f", 0, 1), ("b", 0, 0)), (("f", 0, 0), ("b", 0, 1))))

    def test_rows_that_are_not_lawful(self):
        one, two = SMALL[3]
        self.refuse((one, two[::-1]))
        self.refuse((one[::-1], two))
        crossed = ((("f", 0, 0), ("b", 0, 0), ("f", 1, 0), ("b", 1, 0)),
                   (("f", 1, 1), ("b", 1, 1), ("f", 0, 1), ("b", 0, 1)))
        self.refuse(crossed, 2, 2, 2)

    def test_an_earlier_error_comes_first(self):
        for rows in ANY_VALUES:
            with self.assertRaises(InvalidNumber):
                Schedule(2, 2, 0, rows)


class Needs(unittest.TestCase):
    def test_all_deeds(self):
        rng = dice(3)
        for machines, stages, portions in ((1, 1, 1), (1, 3, 2), (2, 2, 2), (2, 4, 3), (4, 4, 1), (3, 12, 8)):
            schedule = some_schedule(rng, machines, stages, portions)
            for deed in all_deeds(stages, portions):
                found = needs(schedule, deed)
                self.assertEqual(found, plain_needs(stages, deed))
                self.assertEqual(needs(schedule, list(deed)), found)
                self.assertTrue(all_tuples(found))

    def test_by_hand(self):
        schedule = Schedule(*SMALL)
        self.assertEqual(needs(schedule, ("f", 0, 0)), ())
        self.assertEqual(needs(schedule, ("f", 0, 1)), (("f", 0, 0),))
        self.assertEqual(needs(schedule, ("b", 0, 1)), (("f", 0, 1),))
        self.assertEqual(needs(schedule, ("b", 0, 0)), (("b", 0, 1), ("f", 0, 0)))


class Orders(unittest.TestCase):
    def all_orders(self, schedule):
        """All orders of a small schedule, by trying each machine at each place."""
        orders = [()]
        for _ in range(2 * schedule.stages * schedule.portions):
            longer = []
            for order in orders:
                for row in schedule.rows:
                    deed = next((one for one in row if one not in order), None)
                    if deed and all(one in order for one in plain_needs(schedule.stages, deed)):
                        longer.append((*order, deed))
            orders = longer
        return orders

    def test_the_order_of_small_schedules(self):
        for counts in COUNTS:
            for rows in all_rows(*counts):
                if has_circle(counts[1], rows):
                    continue
                schedule = Schedule(*counts, rows)
                orders = self.all_orders(schedule)
                wanted = min(orders, key=lambda order: [deed[2] % counts[0] for deed in order])
                self.assertEqual(some_order(schedule), wanted)

    def test_the_order_of_larger_schedules(self):
        rng = dice(4)
        for _ in range(60):
            schedule = some_schedule(rng)
            order = some_order(schedule)
            self.assertTrue(is_an_order(schedule, order))
            self.assertTrue(all_tuples(order))
            for place, deed in enumerate(order):
                done = order[:place]
                for row in schedule.rows[:deed[2] % schedule.machines]:
                    other = next((one for one in row if one not in done), None)
                    self.assertFalse(other and all(one in done for one in plain_needs(schedule.stages, other)))


class Kept(unittest.TestCase):
    def test_by_hand(self):
        rows = ((("f", 0, 0), ("f", 1, 0), ("f", 2, 0), ("b", 0, 0), ("b", 1, 0), ("b", 2, 0)),
                (("f", 0, 1), ("b", 0, 1), ("f", 1, 1), ("f", 2, 1), ("b", 1, 1), ("b", 2, 1)))
        schedule = Schedule(2, 2, 3, rows)
        self.assertEqual(kept_at_most(schedule), (3, 2))
        other = ((("f", 0, 0), ("b", 0, 0), ("f", 1, 0), ("f", 2, 0), ("b", 1, 0), ("b", 2, 0)),
                 (("f", 0, 1), ("b", 0, 1), ("f", 1, 1), ("b", 1, 1), ("f", 2, 1), ("b", 2, 1)))
        self.assertEqual(kept_at_most(Schedule(2, 2, 3, other)), (2, 1))

    def test_at_any_moment_of_the_row(self):
        rng = dice(5)
        for _ in range(80):
            schedule = some_schedule(rng, None, None, rng.randint(1, 8))
            wanted = []
            for stage in range(schedule.stages):
                row = schedule.rows[stage % schedule.machines]
                moments = [row[:place] for place in range(len(row) + 1)]
                wanted.append(max(sum(1 for k in range(schedule.portions)
                                      if ("f", k, stage) in done and ("b", k, stage) not in done)
                                  for done in moments))
            found = kept_at_most(schedule)
            self.assertEqual(found, tuple(wanted))
            self.assertIsInstance(found, tuple)

    def test_under_way(self):
        rng = dice(6)
        for _ in range(80):
            machines, stages, portions = rng.choice(((1, 2, 4), (2, 2, 5), (2, 4, 3), (3, 3, 4)))
            schedule = some_schedule(rng, machines, stages, portions)
            orders = [some_order(schedule)]
            # Another order of the same schedule: the highest machine first.
            done = []
            while len(done) < 2 * stages * portions:
                nexts = [next((one for one in row if one not in done), None) for row in schedule.rows]
                ready = [one for one in nexts if one and all(d in done for d in plain_needs(stages, one))]
                done.append(ready[-1])
            orders.append(tuple(done))
            for order in orders:
                moments = [order[:place] for place in range(len(order) + 1)]
                wanted = max(sum(1 for k in range(portions) if ("f", k, 0) in past and ("b", k, 0) not in past)
                             for past in moments)
                lists = as_lists(order)
                self.assertEqual(under_way(schedule, order), wanted)
                self.assertEqual(under_way(schedule, lists), wanted)
                self.assertEqual(lists, as_lists(order))

    def test_under_way_by_hand(self):
        rows = ((("f", 0, 0), ("f", 1, 0), ("b", 0, 0), ("b", 1, 0)),
                (("f", 0, 1), ("b", 0, 1), ("f", 1, 1), ("b", 1, 1)))
        schedule = Schedule(2, 2, 2, rows)
        self.assertEqual(under_way(schedule, some_order(schedule)), 2)
        one_by_one = Schedule(1, 1, 2, ((("f", 0, 0), ("b", 0, 0), ("f", 1, 0), ("b", 1, 0)),))
        self.assertEqual(under_way(one_by_one, some_order(one_by_one)), 1)


if __name__ == "__main__":
    unittest.main()
