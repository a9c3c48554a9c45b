"""[37]: the best plan of a cut, a number under way, and stages that make anew."""

import unittest
from itertools import chain, combinations

from samples import all_cuts, all_tuples, any_values_but, dice
from stagesfull.errors import InvalidNumber
from stagesfull.plans import best_plan
from stagesfull.rules import one_and_one
from stagesfull.schedules import kept_at_most
from stagesfull.times import span


def all_choices(machines):
    return list(chain.from_iterable(combinations(range(machines), many) for many in range(machines + 1)))


def all_plans(forth, back, kept, machines, portions):
    """(span, cut, under, stages that make anew) and the cells kept at each stage, of all choices."""
    for cut in all_cuts(len(forth), machines):
        firsts = [sum(cut[:stage]) for stage in range(machines + 1)]
        for under in range(1, machines + 1):
            schedule = one_and_one(machines, portions, under)
            for anew in all_choices(machines):
                there, here, cells = [], [], []
                for stage in range(machines):
                    layers = slice(firsts[stage], firsts[stage + 1])
                    there.append(sum(forth[layers]))
                    here.append(sum(back[layers]) + (sum(forth[layers]) if stage in anew else 0))
                    held = kept[firsts[stage]] if stage in anew else sum(kept[layers])
                    cells.append(kept_at_most(schedule)[stage] * held)
                yield (span(schedule, there, here), cut, under, anew), cells


def wanted_plan(forth, back, kept, machines, portions, room):
    fitting = [plan for plan, cells in all_plans(forth, back, kept, machines, portions)
               if all(many <= room for many in cells)]
    return min(fitting) if fitting else None


class BestPlan(unittest.TestCase):
    def test_by_hand(self):
        # One machine: 2 portions, one at a time under way.
        self.assertEqual(best_plan((1, 2), (3, 4), (5, 6), 1, 2, 11), (20, (2,), 1, ()))
        # Only 5 cells: it makes anew, which takes 3 more for each portion.
        self.assertEqual(best_plan((1, 2), (3, 4), (5, 6), 1, 2, 10), (26, (2,), 1, (0,)))
        self.assertEqual(best_plan((1, 2), (3, 4), (5, 6), 1, 2, 5), (26, (2,), 1, (0,)))
        self.assertIsNone(best_plan((1, 2), (3, 4), (5, 6), 1, 2, 4))
        # Two machines with both portions under way keep 2 at stage 0 and 1 at stage 1.
        self.assertEqual(best_plan((1, 1), (1, 1), (3, 5), 2, 2, 6), (6, (1, 1), 2, ()))
        # Less room lets only one portion be under way.
        self.assertEqual(best_plan((1, 1), (1, 1), (3, 5), 2, 2, 5), (8, (1, 1), 1, ()))
        self.assertIsNone(best_plan((1, 1), (1, 1), (3, 5), 2, 2, 4))

    def test_names_and_lists(self):
        forth, back, kept = [1, 2, 3], [3, 4, 1], [5, 6, 2]
        found = best_plan(room=12, portions=3, machines=2, kept=kept, back=back, forth=forth)
        self.assertEqual(found, wanted_plan(tuple(forth), tuple(back), tuple(kept), 2, 3, 12))
        self.assertEqual((forth, back, kept), ([1, 2, 3], [3, 4, 1], [5, 6, 2]))
        self.assertTrue(all_tuples(found))
        self.assertIsInstance(found[1], tuple)
        self.assertIsInstance(found[3], tuple)

    def test_all_choices_of_few_layers(self):
        rng = dice(1)
        nones = news = 0
        for layers in range(1, 6):
            for machines in range(1, min(3, layers) + 1):
                for portions in (1, 2, 3, 6):
                    for _ in range(3):
                        most = rng.choice((1, 2, 9))
                        forth = tuple(rng.randint(1, most) for _ in range(layers))
                        back = tuple(rng.randint(1, most) for _ in range(layers))
                        kept = tuple(rng.randint(0, rng.choice((1, 5))) for _ in range(layers))
                        for room in (0, rng.randint(1, 6), rng.randint(2, 14), 1000):
                            given = (forth, back, kept, machines, portions, room)
                            found = best_plan(*given)
                            self.assertEqual(found, wanted_plan(*given), given)
                            nones += found is None
                            news += found is not None and len(found[3]) > 0
        self.assertGreater(nones, 50)
        self.assertGreater(news, 50)

    def test_just_enough_room(self):
        rng = dice(2)
        for _ in range(15):
            layers = rng.randint(2, 4)
            machines = rng.randint(2, min(3, layers))
            forth, back, kept = (tuple(rng.randint(1, 5) for _ in range(layers)) for _ in range(3))
            for plan, cells in all_plans(forth, back, kept, machines, 4):
                room = max(cells)
                self.assertLessEqual(best_plan(forth, back, kept, machines, 4, room), plan)
            least = min(max(cells) for _, cells in all_plans(forth, back, kept, machines, 4))
            self.assertIsNone(best_plan(forth, back, kept, machines, 4, least - 1))
            self.assertIsNotNone(best_plan(forth, back, kept, machines, 4, least))

    def test_the_first_of_equal_choices(self):
        # The cuts (1, 2) and (2, 1) take the same time.
        self.assertEqual(best_plan((1, 1, 1), (1, 1, 1), (0, 0, 0), 2, 1, 0), (6, (1, 2), 1, ()))
        # One portion alone: any number may be under way.
        self.assertEqual(best_plan((1, 1), (1, 1), (1, 1), 2, 1, 9)[1:], ((1, 1), 1, ()))
        plans = [plan for plan, _ in all_plans((1, 1, 1), (1, 1, 1), (0, 0, 0), 2, 1)]
        self.assertGreater(sum(plan[0] == 6 for plan in plans), 2)


class WrongNumbers(unittest.TestCase):
    def check(self, machines, portions, wrong, layers=4):
        with self.assertRaises(InvalidNumber) as caught:
            best_plan((1,) * layers, (1,) * layers, (1,) * layers, machines, portions, 10)
        self.assertIs(caught.exception.number, wrong)

    def test_machines(self):
        for layers in range(1, 7):
            for machines in [0, min(3, layers) + 1, 4, 5, 7, *any_values_but(1)]:
                self.check(machines, 2, machines, layers)
            for machines in range(1, min(3, layers) + 1):
                self.assertIsNotNone(best_plan((1,) * layers, (1,) * layers, (1,) * layers, machines, 1, 99))

    def test_portions(self):
        for portions in [0, 7, 8, *any_values_but(1)]:
            for machines in (1, 2, 3):
                self.check(machines, portions, portions)
        for portions in range(1, 7):
            self.assertIsNotNone(best_plan((1,), (1,), (1,), 1, portions, 99))

    def test_machines_ahead_of_portions(self):
        for machines in [0, 4, *any_values_but(1)]:
            for portions in (0, None, "x", True):
                self.check(machines, portions, machines)


if __name__ == "__main__":
    unittest.main()
