"""[23]: letters that are due, and spans with a slow machine."""

import unittest

from samples import (ANY_VALUES, all_cuts, any_values_but, as_lists, dice, some_case, some_schedule, time_of,
                     timed_schedules)
from stagesfull.audits import letter_due, run_time
from stagesfull.errors import InvalidCut, NoMachine
from stagesfull.nets import Net
from stagesfull.rules import fill_and_drain, one_and_one
from stagesfull.runs import Run
from stagesfull.schedules import some_order
from stagesfull.slacks import delayed_span
from stagesfull.snapshots import snapshot
from stagesfull.times import span
from stagesfull.works import Work

NET = Net(89, (((2,),), ((3,),), ((4,),)), ("line", "square", "line"))
BATCH = ((((1,), (2,)), ((3,), (4,))), (((5,), (6,)),))


def plain_letters(net, cut, batch, schedule):
    """All letters of a run without own, out of works that do the deeds in order."""
    works, first = [], 0
    for many in cut:
        works.append(Work(net, range(first, first + many), False))
        first += many
    given, letters = {}, []
    for way, k, s in some_order(schedule):
        if way == "f":
            came_in = given["f", k, s - 1] if s else [vector for vector, _ in batch[k]]
            given["f", k, s] = works[s].go_forward(k, came_in)
            user = s + 1
        else:
            slopes = given.get(("b", k, s + 1)) or [
                [2 * (o - t) % net.prime for o, t in zip(out, target)]
                for out, (_, target) in zip(given["f", k, s], batch[k])]
            given["b", k, s] = works[s].go_back(k, slopes)
            user = s - 1
        if user in range(len(cut)) and user % schedule.machines != s % schedule.machines:
            letters.append((way, k, user, given[way, k, s]))
    return letters


def letters_on_the_way(net, cut, batch, schedule):
    """All letters that a run has on the way if it posts and delivers until all is done."""
    run = Run(net, cut, batch, schedule, 7)
    found = {}
    while True:
        for machine in range(schedule.machines):
            run.post(machine)
        for letter in snapshot(run)[1]:
            found[letter] = True
        if run.is_done():
            return list(found)
        while len(run):
            run.deliver(0)


def changed_letters(rng, net, schedule, letter):
    """The letter with each part changed, and with several."""
    way, portion, stage, vectors = letter
    ways = ["b" if way == "f" else "f", "", "F", "fb", "x", "forward", " f"]
    portions = [portion + 1, portion - 1, -1, -portion - 1, portion - schedule.portions, schedule.portions, 10 ** 9]
    stages = [stage + 1, stage - 1, stage + schedule.machines, stage - schedule.machines, -1, stage - schedule.stages,
              schedule.stages, -10 ** 9]
    rows = [list(row) for row in vectors]
    at, place = rng.randrange(len(rows)), rng.randrange(net.width)
    others = [[], rows + rows[:1], rows[:-1], rows[::-1], [row + [0] for row in rows], [row[:-1] for row in rows],
              [[]] * len(rows), [[-1] * net.width] * len(rows), [[number + net.prime for number in row] for row in rows],
              [[number - net.prime for number in row] for row in rows]]
    for more in (1, -1, net.prime, 10 ** 30):
        others.append([[number + more * (k == at and i == place) for i, number in enumerate(row)]
                       for k, row in enumerate(rows)])
    for one in ways:
        yield one, portion, stage, vectors
    for one in portions:
        yield way, one, stage, vectors
    for one in stages:
        yield way, portion, one, vectors
    for one in others:
        yield way, portion, stage, tuple(map(tuple, one))
    for _ in range(10):
        yield (rng.choice(ways + [way]), rng.choice(portions + [portion]), rng.choice(stages + [stage]),
               tuple(map(tuple, rng.choice(others + [rows]))))


class LetterDue(unittest.TestCase):
    def test_by_hand(self):
        given = (NET, (1, 2), BATCH, one_and_one(2, 2, 2))
        self.assertIs(letter_due(*given, ("f", 0, 1, ((2,), (6,)))), True)
        self.assertIs(letter_due(*given, ("f", 1, 1, ((10,),))), True)
        # Portion 1: 4 * 30 ** 2 comes out, 40 modulo 89; slopes 68, 68 * 4, 2 * 30 * that * 3.
        self.assertEqual(4 * 30 ** 2 % 89, 40)
        self.assertEqual(68 * 4 * 60 * 3 % 89, 10)
        self.assertIs(letter_due(*given, ("b", 1, 0, ((10,),))), True)
        for letter in (("f", 1, 1, ((11,),)), ("b", 1, 1, ((10,),)), ("f", 1, 0, ((5,),)), ("f", 0, 1, ((10,),)),
                       ("f", 1, 2, ((40,),)), ("b", 1, 0, ((9,),)), ("b", 1, -1, ((10,),)), ("f", -1, 1, ((10,),)),
                       ("x", 1, 1, ((10,),)), ("f", 2, 1, ((10,),)), ("f", 1, 1, ((99,),)), ("f", 1, 1, ((10, 0),)),
                       ("f", 1, 1, ((10,), (10,))), ("f", 1, 1, ()), ("f", 1, 1, ((),)), ("f", 1, -1, ((10,),))):
            self.assertIs(letter_due(*given, letter), False, letter)

    def test_names_and_lists(self):
        named = {"net": NET, "cut": [1, 2], "batch": as_lists(BATCH), "schedule": one_and_one(2, 2, 1)}
        letter = ["f", 0, 1, [[2], [6]]]
        self.assertIs(letter_due(letter=letter, **named), True)
        self.assertIs(letter_due(letter=["f", 0, 1, ((2,), [6])], **named), True)
        self.assertIs(letter_due(letter=["f", 0, 1, [[2], [7]]], **named), False)
        self.assertEqual((letter, named["cut"], named["batch"]), (["f", 0, 1, [[2], [6]]], [1, 2], as_lists(BATCH)))

    def test_letters_between_stages_of_one_machine(self):
        # One machine says nothing to itself.
        for cut in all_cuts(3, 2):
            for letter in plain_letters(NET, cut, BATCH, fill_and_drain(2, 2, 2)):
                self.assertIs(letter_due(NET, cut, BATCH, fill_and_drain(2, 2, 2), letter), True)
                self.assertIs(letter_due(NET, cut, BATCH, fill_and_drain(1, 2, 2), letter), False)

    def test_all_letters_of_a_run_and_changed_ones(self):
        rng = dice(1)
        dues = false = 0
        for _ in range(120):
            net, cut, batch, schedule = some_case(rng)
            given = (net, cut, batch, schedule)
            letters = plain_letters(*given)
            self.assertEqual(sorted(letters), sorted(letters_on_the_way(*given)))
            due = set(letters)
            for letter in letters:
                self.assertIs(letter_due(*given, letter), True)
                self.assertIs(letter_due(net, list(cut), as_lists(batch), schedule, as_lists(letter)), True)
                dues += 1
            for letter in rng.sample(letters, min(4, len(letters))):
                for other in changed_letters(rng, net, schedule, letter):
                    self.assertIs(letter_due(*given, other), other in due, (letter, other))
                    false += other not in due
        self.assertGreater(dues, 500)
        self.assertGreater(false, 5000)

    def test_all_ways_portions_and_stages(self):
        rng = dice(2)
        for _ in range(25):
            net, cut, batch, schedule = some_case(rng)
            letters = plain_letters(net, cut, batch, schedule)
            rows = {letter[3] for letter in letters} | {((0,) * net.width,), ()}
            for way in ("f", "b", "x"):
                for portion in range(-1, schedule.portions + 1):
                    for stage in range(-1, schedule.stages + 1):
                        for vectors in rng.sample(sorted(rows), min(5, len(rows))):
                            letter = (way, portion, stage, vectors)
                            self.assertIs(letter_due(net, cut, batch, schedule, letter), letter in letters)

    def test_any_schedule_and_way_of_running_says_the_same(self):
        rng = dice(3)
        for _ in range(40):
            net, cut, batch, schedule = some_case(rng)
            other = some_schedule(rng, schedule.machines, schedule.stages, schedule.portions)
            for letter in plain_letters(net, cut, batch, other):
                self.assertIs(letter_due(net, cut, batch, schedule, letter), True)
            run = Run(net, cut, batch, schedule, rng.randint(0, 1000), again=True)
            while not run.is_done():
                for machine in range(schedule.machines):
                    run.post(machine)
                for letter in snapshot(run)[1]:
                    self.assertIs(letter_due(net, cut, batch, schedule, letter), True)
                while len(run):
                    run.deliver(rng.randrange(len(run)))

    def test_cuts_that_are_none(self):
        wrong = [(3,), (1, 1, 1), (1, 1), (2, 2), (0, 3), (3, 0), (4, -1), (2, True), (True, 2), ("1", 2), [1, 3]]
        for cut in [*ANY_VALUES, *wrong]:
            for letter in (("f", 0, 1, ((2,), (6,))), ("x", 9, 9, ())):
                with self.assertRaises(InvalidCut) as caught:
                    letter_due(NET, cut, BATCH, one_and_one(2, 2, 2), letter)
                self.assertIs(caught.exception.cut, cut)
        for cut in [(3,), (1, 2), (1, 1, 2), (1, 1, 0), (1, 1, True)]:
            with self.assertRaises(InvalidCut) as caught:
                letter_due(NET, cut, BATCH, fill_and_drain(1, 3, 2), ("f", 0, 1, ((2,), (6,))))
            self.assertIs(caught.exception.cut, cut)


class RunTime(unittest.TestCase):
    def test_by_hand(self):
        given = (one_and_one(2, 2, 2), (1, 2), (3, 4))
        self.assertEqual([run_time(*given, 0, slower) for slower in (1, 2, 3)], [16, 20, 27])
        self.assertEqual([run_time(*given, 1, slower) for slower in (1, 2, 3)], [16, 28, 40])
        self.assertEqual(run_time(slower=2, machine=1, back=[3, 4], forth=[1, 2], schedule=one_and_one(2, 2, 2)), 28)
        self.assertEqual(run_time(fill_and_drain(1, 3, 2), (1, 2, 3), (4, 5, 6), 0, 10), 420)

    def test_each_machine_slower(self):
        rng = dice(4)
        for schedule, forth, back, wait in timed_schedules(rng, 120, 5):
            if wait:
                continue
            least = span(schedule, forth, back)
            before = (list(forth), list(back))
            for machine in range(schedule.machines):
                for slower in (1, 2, rng.randint(3, 50)):
                    found = run_time(schedule, forth, back, machine, slower)
                    extra = [(deed, (slower - 1) * time_of(deed, forth, back)) for deed in schedule.rows[machine]]
                    self.assertEqual(found, delayed_span(schedule, forth, back, extra))
                    self.assertGreaterEqual(found, least)
                    self.assertLessEqual(found, slower * least)
                    self.assertIs(type(found), int)
                    self.assertEqual(run_time(schedule, tuple(forth), tuple(back), machine, slower), found)
                self.assertEqual(run_time(schedule, forth, back, machine, 1), least)
            self.assertEqual((forth, back), before)

    def test_no_machine(self):
        for schedule in (one_and_one(2, 2, 2), fill_and_drain(1, 2, 2), fill_and_drain(4, 4, 1)):
            stages = schedule.stages
            for machine in [*any_values_but(), schedule.machines, schedule.machines + 1, 4, "0", (0,)]:
                with self.assertRaises(NoMachine) as caught:
                    run_time(schedule, (1,) * stages, (2,) * stages, machine, 2)
                self.assertIs(caught.exception.machine, machine)


if __name__ == "__main__":
    unittest.main()
