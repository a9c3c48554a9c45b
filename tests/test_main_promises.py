"""Section 1: the three main promises, over the whole program."""

import unittest
from itertools import combinations, product

from samples import (FEW, all_cuts, all_lawful_rows, dice, lets_of, plain_least, some_case, time_of, timed_schedules,
                     wait_between)
from stagesfull.audits import letter_due
from stagesfull.bounds import bottleneck
from stagesfull.campaigns import campaign
from stagesfull.cuts import best_cut, cut_paper, judge_cut, stage_layers
from stagesfull.leasts import least_span
from stagesfull.moments import most_under_way
from stagesfull.nets import Net, train
from stagesfull.polynomials import loss_polynomial
from stagesfull.replicas import train_replicas
from stagesfull.rules import one_and_one
from stagesfull.runs import Run
from stagesfull.schedules import Schedule, some_order, under_way
from stagesfull.searches import least_found
from stagesfull.snapshots import restored, snapshot
from stagesfull.times import chain, span

STEPS = ("post", "post", "deliver", "deliver", "deliver", "deliver", "double", "lose", "keep", "fall", "save")


class TheDocumentsExample(unittest.TestCase):
    def test_it(self):
        net = Net(7, (((2,),), ((3,),)), ("line", "square"))
        self.assertEqual(train(net, ((((1,), (1,)),), (((2,), (0,)),)), 1).weights, (((5,),), ((5,),)))
        self.assertEqual(span(one_and_one(2, 3, 2), (1, 1), (2, 2)), 12)


def slope_training(net, batch, rate):
    """Plain training out of the loss alone: each weight less rate times the number of t."""
    weights = []
    for layer in range(len(net)):
        weights.append([[(net.weights[layer][i][k] - rate * (*loss_polynomial(net, batch, layer, i, k), 0, 0)[1])
                         % net.prime for k in range(net.width)] for i in range(net.width)])
    return Net(net.prime, weights, net.kinds)


class TheWeightsOfPlainTraining(unittest.TestCase):
    """(1): for every net, cut, batch and lawful schedule, in every order of letters and after any falls."""

    def some_step(self, rng, run, case, made):
        """Do something to the run; the run that goes on."""
        net, cut, batch, schedule = case
        step = rng.choice(STEPS)
        if step == "save":
            return restored(*case, made["rate"], snapshot(run), again=made["again"])
        if step in ("post", "keep", "fall"):
            getattr(run, step)(rng.randrange(schedule.machines))
        elif len(run):
            getattr(run, step)(rng.randrange(len(run)))
        return run

    def test_after_anything(self):
        rng = dice(1)
        for _ in range(200):
            case = some_case(rng)
            net, cut, batch, schedule = case
            made = {"rate": rng.randint(0, 1000), "again": rng.random() < 0.5}
            wanted = train(net, batch, made["rate"])
            run = Run(*case, **made)
            for _ in range(rng.randint(0, 120)):
                run = self.some_step(rng, run, case, made)
                # Once all are done the weights are there, whatever is still on the way.
                if run.is_done():
                    self.assertEqual(run.trained(), wanted)
            run.calm()
            self.assertEqual(run.trained(), wanted)
            for machine in range(schedule.machines):
                run.fall(machine)
            run.calm()
            self.assertEqual(run.trained(), wanted)

    def test_number_for_number(self):
        rng = dice(2)
        many = 0
        while many < 60:
            net, cut, batch, schedule = some_case(rng)
            if len(net) * net.width > 8:
                continue
            many += 1
            rate = rng.randint(0, 1000)
            run = Run(net, cut, batch, schedule, rate)
            run.calm()
            self.assertEqual(run.trained(), slope_training(net, batch, rate))

    def test_each_cut_and_all_small_schedules(self):
        net = Net(11, (((2,),), ((3,),), ((7,),), ((5,),)), ("line", "square", "square", "line"))
        batch = ((((1,), (2,)), ((3,), (4,))), (((5,), (6,)),), (((0,), (1,)),), (((9,), (9,)),))
        rng = dice(3)
        for machines, stages, portions in FEW:
            wanted = slope_training(net, batch[:portions], 3)
            rows = all_lawful_rows(machines, stages, portions)
            for cut in all_cuts(4, stages):
                for one in rng.sample(rows, min(12, len(rows))):
                    run = Run(net, cut, batch[:portions], Schedule(machines, stages, portions, one), 3)
                    run.calm()
                    self.assertEqual(run.trained(), wanted)

    def test_all_orders_of_the_letters_of_a_small_run(self):
        net = Net(11, (((2,),), ((3,),)), ("square", "line"))
        case = (net, (1, 1), ((((1,), (2,)),), (((5,), (6,)),)), one_and_one(2, 2, 2))
        wanted = train(*case[::2], 3)
        start = Run(*case, 3)
        start.post(0)
        found = []
        left = [snapshot(start)]
        while left:
            saved = left.pop()
            run = restored(*case, 3, saved)
            if run.is_done():
                found.append(run.trained())
                continue
            for number in range(len(run)):
                run = restored(*case, 3, saved)
                if run.deliver(number):
                    run.post(1)
                    left.append(snapshot(run))
        self.assertGreater(len(found), 3)
        self.assertEqual(found, [wanted] * len(found))

    def test_all_that_trains(self):
        rng = dice(4)
        for _ in range(60):
            net, cut, batch, schedule = some_case(rng)
            wanted = train(net, batch, 5)
            self.assertEqual(campaign(net, [(cut, batch, schedule, 5, rng.random() < 0.5)]), wanted)
            at = rng.randint(1, len(batch))
            parts = [part for part in (batch[:at], batch[at:]) if part]
            self.assertEqual(train_replicas(net, parts, 5), (wanted,) * len(parts))

    def test_what_is_said_on_the_way(self):
        rng = dice(5)
        for _ in range(40):
            case = some_case(rng)
            made = {"rate": 5, "again": False}
            run = Run(*case, **made)
            for _ in range(60):
                run = self.some_step(rng, run, case, made)
                for letter in snapshot(run)[1]:
                    self.assertIs(letter_due(*case, letter), True)


def formula(p, m, c, f, b):
    return (p * ((m - 1) // c) + p + (m - 1) % c) * (f + b)


class TheLeastTime(unittest.TestCase):
    """(2): p stages, each on a machine of its own, m portions, at most c of them under way."""

    def test_a_told_schedule_reaches_it(self):
        for p, m in product(range(1, 5), range(1, 9)):
            for c in range(1, p + 1):
                for f, b in ((1, 1), (1, 2), (3, 1), (7, 9), (100, 1)):
                    schedule = one_and_one(p, m, c)
                    times = ((f,) * p, (b,) * p)
                    self.assertEqual(span(schedule, *times), formula(p, m, c, f, b))
                    self.assertEqual(least_span(p, m, c, f, b), formula(p, m, c, f, b))
                    self.assertLessEqual(most_under_way(schedule, *times), c)
                    self.assertEqual(under_way(schedule, some_order(schedule)), min(c, m))

    def test_no_way_takes_less(self):
        for p, m in [(p, m) for p in range(1, 5) for m in range(1, 9) if p * m <= 6] + [(2, 4), (4, 2)]:
            for c in range(1, p + 1):
                for f, b in product((1, 2, 3), (1, 2, 3)):
                    if p * m > 4 and (f, b) not in ((1, 1), (1, 2), (3, 2)):
                        continue
                    under = min(c, m)
                    self.assertEqual(plain_least(p, p, m, under, f, b), formula(p, m, c, f, b), (p, m, c, f, b))
                    self.assertEqual(least_found(p, p, m, under, f, b), formula(p, m, c, f, b), (p, m, c, f, b))

    def test_no_lawful_schedule_takes_less(self):
        for p, stages, m in FEW:
            if stages != p:
                continue
            for one in all_lawful_rows(p, p, m):
                schedule = Schedule(p, p, m, one)
                for f, b in ((1, 1), (2, 3)):
                    times = ((f,) * p, (b,) * p)
                    c = min(p, most_under_way(schedule, *times))
                    self.assertGreaterEqual(span(schedule, *times), formula(p, m, c, f, b))
                    self.assertGreaterEqual(span(schedule, *times), bottleneck(p, p, m, *times)[0])


class ChainsAndPapers(unittest.TestCase):
    """(3): the time of a schedule is its longest chain of needs, and the best cut comes with a paper."""

    def longest(self, schedule, forth, back, wait):
        """The greatest sum along any chain, by trying each deed as the last one."""
        known = {}

        def until(deed):
            if deed not in known:
                known[deed] = time_of(deed, forth, back) + max(
                    [0, *(until(one) + wait_between(schedule, one, deed, wait) for one in lets_of(schedule, deed))])
            return known[deed]

        return max(until(deed) for row in schedule.rows for deed in row)

    def check(self, schedule, forth, back, wait):
        most = span(schedule, forth, back, wait=wait)
        self.assertEqual(most, self.longest(schedule, forth, back, wait))
        deeds = chain(schedule, forth, back, wait=wait)
        total = sum(time_of(deed, forth, back) for deed in deeds)
        for one, other in zip(deeds, deeds[1:]):
            self.assertIn(one, lets_of(schedule, other))
            total += wait_between(schedule, one, other, wait)
        self.assertEqual(total, most)

    def test_some_schedules(self):
        for schedule, forth, back, wait in timed_schedules(dice(6), 150, 8):
            self.check(schedule, forth, back, wait)

    def test_small_schedules(self):
        rng = dice(7)
        for machines, stages, portions in FEW:
            rows = all_lawful_rows(machines, stages, portions)
            for one in rng.sample(rows, min(40, len(rows))):
                forth = [rng.randint(1, 9) for _ in range(stages)]
                back = [rng.randint(1, 9) for _ in range(stages)]
                self.check(Schedule(machines, stages, portions, one), forth, back, rng.choice((0, rng.randint(1, 9))))

    def test_the_best_cut_and_its_paper(self):
        rng = dice(8)
        rows = [costs for many in range(1, 6) for costs in product((0, 1, 4), repeat=many)]
        rows += [[rng.randint(0, 1000) for _ in range(rng.randint(1, 8))] for _ in range(60)]
        for costs in rows:
            for stages in range(1, len(costs) + 1):
                most, cut = best_cut(costs, stages)
                tops = {one: max(sum(costs[layer] for layer in row) for row in stage_layers(one))
                        for one in all_cuts(len(costs), stages)}
                self.assertEqual(tops[cut], most)
                self.assertEqual(min(tops.values()), most)
                self.assertIs(judge_cut(costs, stages, most, cut_paper(costs, stages)), True)
                # No paper shows more than there is to show.
                for size in {1, stages + 1}:
                    for paper in combinations(range(len(costs)), size):
                        self.assertIs(judge_cut(costs, stages, most + 1, paper), False)


if __name__ == "__main__":
    unittest.main()
