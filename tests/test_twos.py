"""[34]: works that go through two machines."""

import unittest
from itertools import permutations, product

from samples import all_tuples, dice
from stagesfull.twos import best_order, makespan


def unit_by_unit(works, order):
    """The end, moment by moment: in each unit of time each machine does one unit of the work that is next."""
    firsts = [works[place][0] for place in order]
    seconds = [works[place][1] for place in order]
    moment = 0
    while True:
        while firsts and not firsts[0]:
            del firsts[0]
        while len(seconds) > len(firsts) and not seconds[0]:
            del seconds[0]
        if not seconds:
            return moment
        moment += 1
        waiting = len(seconds) > len(firsts)
        if firsts:
            firsts[0] -= 1
        if waiting:
            seconds[0] -= 1


def end_of_two_orders(works, first, second):
    """The end if the second machine does the works in another order."""
    ready, moment = {}, 0
    for place in first:
        moment += works[place][0]
        ready[place] = moment
    moment = 0
    for place in second:
        moment = max(moment, ready[place]) + works[place][1]
    return max(moment, max(ready.values(), default=0))


def some_works(rng, many):
    most = rng.choice((1, 2, 5, 100))
    return [(rng.randint(0, most), rng.randint(0, most)) for _ in range(many)]


class Makespan(unittest.TestCase):
    def test_by_hand(self):
        works = ((3, 2), (1, 4), (2, 2))
        self.assertEqual(makespan(works, (0, 1, 2)), 11)
        self.assertEqual(makespan(works, (1, 0, 2)), 9)
        self.assertEqual(makespan(works, (2, 1, 0)), 10)
        self.assertEqual(makespan(order=[1, 2, 0], works=[[3, 2], [1, 4], [2, 2]]), 9)
        self.assertEqual(makespan((), ()), 0)
        self.assertEqual(makespan([(0, 0)], [0]), 0)
        self.assertEqual(makespan([(7, 0)], [0]), 7)
        self.assertEqual(makespan([(0, 7)], [0]), 7)
        self.assertEqual(makespan([(1, 7), (50, 0)], [0, 1]), 51)

    def test_both_machines_unit_by_unit(self):
        rng = dice(1)
        for _ in range(400):
            works = some_works(rng, rng.randint(0, 8))
            order = rng.sample(range(len(works)), len(works))
            before = (list(works), list(order))
            found = makespan(works, order)
            self.assertEqual(found, unit_by_unit(works, order))
            self.assertEqual(found, end_of_two_orders(works, order, order))
            self.assertEqual(makespan(tuple(works), tuple(order)), found)
            self.assertEqual((works, order), before)
            self.assertIs(type(found), int)

    def test_small_works_unit_by_unit(self):
        for works in product(product(range(3), repeat=2), repeat=3):
            for order in permutations(range(3)):
                self.assertEqual(makespan(works, order), unit_by_unit(works, order))


class BestOrder(unittest.TestCase):
    def test_by_hand(self):
        self.assertEqual(best_order(()), ())
        self.assertEqual(best_order([(5, 5)]), (0,))
        self.assertEqual(best_order(((3, 2), (1, 4), (2, 2))), (1, 0, 2))
        self.assertEqual(best_order(works=[[4, 5], [4, 1], [30, 4], [6, 30], [2, 3]]), (4, 0, 3, 2, 1))
        # Works with equal times are among the others.
        self.assertEqual(best_order([(2, 2), (2, 3), (3, 3), (9, 1)]), (1, 2, 0, 3))

    def test_equal_works(self):
        self.assertEqual(best_order([(1, 2)] * 8), tuple(range(8)))
        self.assertEqual(best_order([(2, 1)] * 8), tuple(range(8)))
        self.assertEqual(best_order([(1, 1)] * 8), tuple(range(8)))
        self.assertEqual(best_order([(0, 0)] * 3), (0, 1, 2))
        # Ascending by one, whatever two is; descending by two, whatever one is.
        self.assertEqual(best_order([(1, 9), (1, 2), (0, 5), (1, 5)]), (2, 0, 1, 3))
        self.assertEqual(best_order([(9, 1), (2, 1), (5, 3), (3, 3), (1, 1)]), (2, 3, 0, 1, 4))

    def test_the_told_order(self):
        rng = dice(2)
        for _ in range(400):
            works = some_works(rng, rng.randint(0, 8))
            before = list(works)
            firsts = [place for place, (one, two) in enumerate(works) if one < two]
            others = [place for place, (one, two) in enumerate(works) if not one < two]
            wanted = (sorted(firsts, key=lambda place: (works[place][0], place))
                      + sorted(others, key=lambda place: (-works[place][1], place)))
            for given in (works, tuple(works), [list(work) for work in works]):
                found = best_order(given)
                self.assertEqual(found, tuple(wanted))
                self.assertTrue(all_tuples(found))
            self.assertEqual(works, before)

    def test_against_all_orders(self):
        rng = dice(3)
        for _ in range(150):
            works = some_works(rng, rng.randint(1, 5))
            least = min(makespan(works, order) for order in permutations(range(len(works))))
            self.assertEqual(makespan(works, best_order(works)), least)
        for _ in range(3):
            works = some_works(rng, 7)
            least = min(makespan(works, order) for order in permutations(range(7)))
            self.assertEqual(makespan(works, best_order(works)), least)

    def test_another_order_on_the_second_machine(self):
        rng = dice(4)
        for turn in range(60):
            works = some_works(rng, turn % 4 + 1)
            orders = list(permutations(range(len(works))))
            least = min(end_of_two_orders(works, first, second) for first in orders for second in orders)
            self.assertEqual(makespan(works, best_order(works)), least)


if __name__ == "__main__":
    unittest.main()
