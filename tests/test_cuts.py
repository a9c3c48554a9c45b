"""[8], [9]: cuts, the best one, its paper and the judge."""

import unittest
from itertools import product

from samples import ANY_VALUES, all_cuts, all_tuples, any_values_but, as_lists, dice
from stagesfull.cuts import best_cut, cut_paper, is_cut, judge_cut, stage_layers, stage_of
from stagesfull.errors import InvalidNumber


def stage_sums(costs, cut):
    return [sum(costs[layer] for layer in row) for row in stage_layers(cut)]


def some_costs(rng):
    return tuple(rng.choice((0, 0, 1, 2, 3, 10, rng.randint(0, 1000))) for _ in range(rng.randint(1, 8)))


def judged(costs, stages, most, paper):
    """The judge's verdict straight from the document's words."""
    if len(paper) == 1 and paper[0] in range(len(costs)) and costs[paper[0]] >= most:
        return True
    if len(paper) != stages + 1 or any(layer not in range(len(costs)) for layer in paper):
        return False
    if list(paper) != sorted(set(paper)):
        return False
    return all(sum(costs[low:high + 1]) >= most for low, high in zip(paper, paper[1:]))


class Cuts(unittest.TestCase):
    def test_all_rows_of_few_layers(self):
        for n in range(1, 6):
            for stages in range(6):
                cuts = all_cuts(n, stages)
                for row in product(range(-1, n + 2), repeat=stages):
                    self.assertIs(is_cut(n, row), row in cuts, (n, row))
                    self.assertIs(is_cut(n, list(row)), row in cuts, (n, row))

    def test_values_that_are_none(self):
        for value in ANY_VALUES:
            self.assertIs(is_cut(7, value), False, value)
        for value in any_values_but((1,), [1]):
            self.assertIs(is_cut(1, value), False, value)
        for value in [(1, True), (True, 1), [True, True], (2.0,), ("1", 1), ((1,), 1), (2, None), 2, "2",
                      {1: 1, 3: 2}, (3, -1), (0, 2), (2, 0), (10 ** 399, 2 - 10 ** 399), [2, []]]:
            self.assertIs(is_cut(2, value), False, value)

    def test_a_cut_with_many_layers(self):
        self.assertIs(is_cut(200, [1] * 200), True)
        self.assertIs(is_cut(201, [1] * 200), False)

    def test_stage_layers(self):
        self.assertEqual(stage_layers((2, 1, 3)), ((0, 1), (2,), (3, 4, 5)))
        self.assertEqual(stage_layers([1]), ((0,),))
        self.assertEqual(stage_layers(cut=[1, 1]), ((0,), (1,)))
        for n, stages in product(range(1, 7), range(1, 7)):
            for cut in all_cuts(n, stages):
                rows = stage_layers(as_lists(cut))
                self.assertTrue(all_tuples(rows))
                self.assertEqual(tuple(len(row) for row in rows), cut)
                self.assertEqual([layer for row in rows for layer in row], list(range(n)))
                for stage, row in enumerate(rows):
                    for layer in row:
                        self.assertEqual(stage_of(cut, layer), stage)
                        self.assertEqual(stage_of(layer=layer, cut=list(cut)), stage)


class BestCuts(unittest.TestCase):
    def test_against_all_cuts(self):
        rng = dice(1)
        rows = [costs for many in range(1, 6) for costs in product((0, 1, 3), repeat=many)]
        rows += [some_costs(rng) for _ in range(150)]
        for costs in rows:
            for stages in range(1, len(costs) + 1):
                cuts = all_cuts(len(costs), stages)
                most = min(max(stage_sums(costs, cut)) for cut in cuts)
                first = min(cut for cut in cuts if max(stage_sums(costs, cut)) == most)
                self.assertEqual(best_cut(costs, stages), (most, first), (costs, stages))

    def test_twelve_layers(self):
        costs = (7, 0, 1000, 3, 3, 3, 999, 0, 0, 1, 500, 500)
        for stages in range(1, 13):
            cuts = all_cuts(12, stages)
            most = min(max(stage_sums(costs, cut)) for cut in cuts)
            self.assertEqual(best_cut(costs, stages),
                             (most, min(cut for cut in cuts if max(stage_sums(costs, cut)) == most)))
            self.assertIs(judge_cut(costs, stages, most, cut_paper(costs, stages)), True)

    def test_by_hand(self):
        self.assertEqual(best_cut((0, 0, 0), 2), (0, (1, 2)))
        self.assertEqual(best_cut([4, 1, 1, 4], 2), (5, (2, 2)))
        self.assertEqual(best_cut(stages=3, costs=[1, 1, 5, 1]), (5, (2, 1, 1)))

    def test_papers_by_hand(self):
        self.assertEqual(cut_paper((0, 0, 0), 2), (0,))
        self.assertEqual(cut_paper((1, 5, 1, 5), 4), (1,))
        self.assertEqual(cut_paper((1, 5, 1, 5), 3), (0, 1, 2, 3))
        self.assertEqual(cut_paper([4, 1, 1, 4], 2), (0, 1, 3))
        self.assertEqual(cut_paper(stages=1, costs=[1, 2, 3]), (0, 2))
        self.assertEqual(cut_paper((2, 2, 2, 2), 2), (0, 1, 2))

    def test_papers_are_as_told(self):
        rng = dice(2)
        for _ in range(300):
            costs = some_costs(rng)
            for stages in range(1, len(costs) + 1):
                most = best_cut(costs, stages)[0]
                wanted = [layer for layer in range(len(costs)) if costs[layer] == most][:1]
                if not wanted:
                    wanted = [0]
                    while len(wanted) < stages + 1:
                        wanted.append(next(layer for layer in range(wanted[-1] + 1, len(costs))
                                           if sum(costs[wanted[-1]:layer + 1]) >= most))
                self.assertEqual(cut_paper(as_lists(costs), stages), tuple(wanted))
                self.assertIs(judge_cut(costs, stages, most, wanted), True)

    def test_no_number_of_stages(self):
        for costs in ((3,), (1, 2, 3), [5] * 12):
            for stages in [0, -1, len(costs) + 1, 1000, *any_values_but(1)]:
                for asked in (best_cut, cut_paper):
                    with self.assertRaises(InvalidNumber) as caught:
                        asked(costs, stages)
                    self.assertIs(caught.exception.number, stages)

    def test_costs_stay_as_they_are(self):
        costs = [3, 1, 2]
        best_cut(costs, 2)
        cut_paper(costs, 2)
        judge_cut(costs, 2, 3, [0, 1])
        self.assertEqual(costs, [3, 1, 2])


class Judge(unittest.TestCase):
    def test_all_papers_of_few_layers(self):
        for costs in [*product((0, 1, 3), repeat=3), (2, 1, 1, 2), (0, 4, 0, 4)]:
            n = len(costs)
            for stages in range(1, n + 1):
                cuts = [stage_sums(costs, cut) for cut in all_cuts(n, stages)]
                for most in range(10):
                    every = all(max(sums) >= most for sums in cuts)
                    papers = [paper for size in range(n + 2) for paper in product(range(-1, n + 1), repeat=size)]
                    for paper in papers:
                        verdict = judge_cut(costs, stages, most, paper)
                        self.assertIs(verdict, judged(costs, stages, most, paper), (costs, stages, most, paper))
                        # The sentence in bold: what it takes is right.
                        self.assertTrue(every or not verdict)

    def test_papers_that_are_taken(self):
        self.assertIs(judge_cut((4, 1, 1, 4), 2, 5, (0, 1, 3)), True)
        self.assertIs(judge_cut((4, 1, 1, 4), 2, 5, [0, 2, 3]), True)
        self.assertIs(judge_cut((4, 1, 1, 4), 2, 4, [3]), True)
        self.assertIs(judge_cut(paper=[0, 1], most=3, stages=1, costs=[1, 2]), True)

    def test_papers_that_are_not(self):
        for paper in ((), (1,), (4,), (-1,), (-4,), (10 ** 399,), (0, 3), (0, 1, 2), (0, 0, 3), (3, 1, 0),
                      (0, 1, 4), (-1, 1, 3), (0, 1, 2, 3), [0, 1, 10 ** 399]):
            self.assertIs(judge_cut((4, 1, 1, 4), 2, 5, paper), False, paper)


if __name__ == "__main__":
    unittest.main()
