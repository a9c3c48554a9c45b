"""[31]: which stages make anew what they need."""

import unittest
from itertools import combinations, product

from samples import all_tuples, dice
from stagesfull.rooms import best_again


def all_choices(stages):
    return [row for many in range(stages + 1) for row in combinations(range(stages), many)]


def plain_best(kept, costs, room):
    """All choices, and the first one, ascending, of those that cost least."""
    fitting = [row for row in all_choices(len(kept))
               if sum(cells for stage, cells in enumerate(kept) if stage not in row) <= room]
    least = min(sum(costs[stage] for stage in row) for row in fitting)
    return least, min(row for row in fitting if sum(costs[stage] for stage in row) == least)


class Rooms(unittest.TestCase):
    def test_by_hand(self):
        self.assertEqual(best_again((5, 3, 4), (10, 6, 7), 12), (0, ()))
        self.assertEqual(best_again((5, 3, 4), (10, 6, 7), 11), (6, (1,)))
        self.assertEqual(best_again((5, 3, 4), (10, 6, 7), 8), (7, (2,)))
        self.assertEqual(best_again((5, 3, 4), (10, 6, 7), 7), (10, (0,)))
        self.assertEqual(best_again((5, 3, 4), (10, 6, 7), 5), (13, (1, 2)))
        self.assertEqual(best_again((5, 3, 4), (10, 6, 7), 4), (16, (0, 1)))
        self.assertEqual(best_again((5, 3, 4), (10, 6, 7), 0), (23, (0, 1, 2)))
        self.assertEqual(best_again(room=3, costs=[2, 1], kept=[4, 3]), (2, (0,)))

    def test_one_stage_and_none(self):
        self.assertEqual([best_again((3,), (7,), room) for room in range(5)],
                         [(7, (0,)), (7, (0,)), (7, (0,)), (0, ()), (0, ())])
        self.assertEqual(best_again((), (), 0), (0, ()))
        self.assertEqual(best_again((0,), (7,), 0), (0, ()))

    def test_the_first_row_of_equal_ones(self):
        self.assertEqual(best_again((1, 1, 1), (2, 2, 2), 2), (2, (0,)))
        self.assertEqual(best_again((1, 1, 1), (2, 2, 2), 1), (4, (0, 1)))
        # (0, 3) and (1, 2) cost as much; (0, 3) stands first.
        self.assertEqual(best_again((3, 2, 2, 1), (3, 2, 2, 1), 4), (4, (0, 3)))
        # A row that another one begins with stands ahead of it.
        self.assertEqual(best_again((5, 0, 5), (1, 0, 0), 5), (0, (1, 2)))
        self.assertEqual(best_again((5, 0), (1, 0), 0), (1, (0,)))
        # Stages that cost nothing may be in the row although they need not.
        self.assertEqual(best_again((0, 0, 5), (0, 0, 0), 4), (0, (0, 1, 2)))
        self.assertEqual(best_again((0, 0, 5), (0, 0, 0), 5), (0, ()))
        self.assertEqual(best_again((2, 0, 5), (0, 0, 3), 2), (3, (0, 1, 2)))

    def test_all_small_ones(self):
        for stages in range(4):
            for kept in product((0, 1, 3), repeat=stages):
                for costs in product((0, 1, 2), repeat=stages):
                    for room in range(sum(kept) + 2):
                        self.assertEqual(best_again(kept, costs, room), plain_best(kept, costs, room))

    def test_some_greater_ones(self):
        rng = dice(1)
        for _ in range(250):
            stages = rng.randint(1, 7)
            most = rng.choice((1, 2, 4, 1000))
            kept = [rng.choice((0, rng.randint(0, most))) for _ in range(stages)]
            costs = [rng.choice((0, rng.randint(0, most))) for _ in range(stages)]
            lists = [list(kept), list(costs)]
            for room in {0, 1, sum(kept) // 2, sum(kept) - 1, sum(kept), sum(kept) + 1, rng.randint(0, sum(kept))}:
                if room < 0:
                    continue
                found = best_again(kept, costs, room)
                self.assertEqual(found, plain_best(kept, costs, room))
                self.assertTrue(all_tuples(found))
                self.assertEqual(best_again(tuple(kept), tuple(costs), room), found)
            self.assertEqual([kept, costs], lists)

    def test_twelve_stages(self):
        rng = dice(2)
        for most in (1, 2, 9, 1000):
            kept = [rng.randint(0, most) for _ in range(12)]
            costs = [rng.randint(0, most) for _ in range(12)]
            for room in (0, sum(kept) // 3, sum(kept) // 2, sum(kept) - 1, sum(kept)):
                self.assertEqual(best_again(kept, costs, room), plain_best(kept, costs, room))


if __name__ == "__main__":
    unittest.main()
