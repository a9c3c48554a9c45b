"""[18], [19], [20]: runs, their letters and falls, and what comes out of them."""

import unittest

from samples import (ANY_VALUES, all_cuts, all_tuples, any_values_but, as_lists, dice, late_weights, plain_needs,
                     some_case, spoil)
from stagesfull.errors import InvalidCut, NoLetter, NoMachine, NotDone, StageError
from stagesfull.nets import Net, train
from stagesfull.rules import fill_and_drain, one_and_one
from stagesfull.runs import Run


class Model:
    """What a run tells of its machines and letters, without any vectors.

    What a machine has said follows from its place; what it can do, from its place and what it has got.
    """

    def __init__(self, cut, batch, schedule, again):
        self.cut, self.batch, self.schedule, self.again = cut, batch, schedule, again
        self.places = [0] * schedule.machines
        self.got = [set() for _ in schedule.rows]
        self.kept = [(0, frozenset()) for _ in schedule.rows]
        self.way = []
        for machine in range(schedule.machines):
            self.go_on(machine)

    def go_on(self, machine):
        row = self.schedule.rows[machine]
        while self.places[machine] < len(row) and self.can_be_done(machine, row[self.places[machine]]):
            self.places[machine] += 1

    def can_be_done(self, machine, deed):
        done = self.schedule.rows[machine][:self.places[machine]]
        return all(one in done or deed in self.got[machine] and one[2] != deed[2]
                   for one in plain_needs(self.schedule.stages, deed))

    def said(self, machine):
        letters = []
        for way, portion, stage in self.schedule.rows[machine][:self.places[machine]]:
            user = stage + 1 if way == "f" else stage - 1
            if user in range(self.schedule.stages) and user % self.schedule.machines != machine:
                letters.append((way, portion, user))
        return letters

    def deliver(self, number):
        letter = self.way.pop(number)
        machine = letter[2] % self.schedule.machines
        if letter in self.got[machine]:
            return False
        self.got[machine].add(letter)
        self.go_on(machine)
        return True

    def keep(self, machine):
        self.kept[machine] = (self.places[machine], frozenset(self.got[machine]))

    def fall(self, machine):
        place, got = self.kept[machine]
        self.places[machine] = place
        self.got[machine] = set(got)
        self.go_on(machine)

    def is_done(self, machine):
        return self.places[machine] == len(self.schedule.rows[machine])

    def layers(self, machine):
        total = 0
        for way, portion, stage in self.schedule.rows[machine][:self.places[machine]]:
            total += len(self.batch[portion]) * self.cut[stage] * (way == "f" or self.again)
        return total


NET = Net(7, (((2,),), ((3,),), ((4,),)), ("line", "square", "line"))
BATCH = ((((1,), (2,)), ((3,), (4,))), (((5,), (6,)),))


def small_run(**more):
    return Run(NET, (1, 2), BATCH, one_and_one(2, 2, 2), 1, **more)


class WrongCuts(unittest.TestCase):
    def check(self, net, cut, schedule, batch=BATCH):
        with self.assertRaises(InvalidCut) as caught:
            Run(net, cut, batch, schedule, 1)
        self.assertIs(caught.exception.cut, cut)

    def test_any_value(self):
        for cut in ANY_VALUES:
            self.check(NET, cut, one_and_one(2, 2, 2))
            self.check(NET, cut, fill_and_drain(3, 3, 2))
        one = Net(7, (((2,),),), ("line",))
        for cut in any_values_but((1,), [1]):
            self.check(one, cut, one_and_one(1, 2, 1))

    def test_cuts_of_another_number(self):
        for cut in [(3,), (1, 1, 1), (1, 1), (2, 2), (0, 3), (3, 0), (4, -1), (2, True), (True, 2), ("1", 2), [1, 3]]:
            self.check(NET, cut, one_and_one(2, 2, 2))
        for cut in [(3,), (1, 2), (1, 1, 2), (1, 1, 0), (1, 1, True)]:
            self.check(NET, cut, fill_and_drain(3, 3, 2))
            self.check(NET, cut, fill_and_drain(1, 3, 2))

    def test_cuts_that_are_taken(self):
        for stages in (1, 2, 3):
            for cut in all_cuts(3, stages):
                for schedule in (fill_and_drain(1, stages, 2), fill_and_drain(stages, stages, 2)):
                    for given in (cut, list(cut)):
                        run = Run(NET, given, BATCH, schedule, 1)
                        run.calm()
                        self.assertEqual(run.trained(), train(NET, BATCH, 1))


class FromTheBeginning(unittest.TestCase):
    def test_each_machine_goes_on_at_once(self):
        run = Run(NET, (1, 1, 1), BATCH, fill_and_drain(3, 3, 2), 1)
        self.assertEqual([run.place_of(machine) for machine in range(3)], [2, 0, 0])
        self.assertEqual((run.letters(), len(run), run.is_done()), ((), 0, False))
        self.assertEqual(run.layers_by_machine(), (3, 0, 0))

    def test_one_machine_does_all_at_once(self):
        for again in (False, True):
            run = Run(NET, (1, 1, 1), BATCH, fill_and_drain(1, 3, 2), 1, again=again)
            self.assertEqual((run.place_of(0), run.letters(), len(run), run.is_done()), (12, (), 0, True))
            self.assertEqual(run.trained(), train(NET, BATCH, 1))
            self.assertEqual(run.layers_by_machine(), (18,) if again else (9,))
            run.post(0)
            self.assertEqual(run.letters(), ())

    def test_places_of_many(self):
        rng = dice(1)
        for _ in range(60):
            net, cut, batch, schedule = some_case(rng)
            run = Run(net, cut, batch, schedule, 1)
            model = Model(cut, batch, schedule, False)
            self.assertEqual([run.place_of(machine) for machine in range(schedule.machines)], model.places)
            self.assertEqual(run.is_done(), schedule.machines == 1)

    def test_again_and_own_by_name_only(self):
        with self.assertRaises(TypeError):
            Run(NET, (1, 2), BATCH, one_and_one(2, 2, 2), 1, True)
        run = Run(own=True, again=True, rate=1, schedule=one_and_one(2, 2, 2), batch=BATCH, cut=(1, 2), net=NET)
        self.assertEqual(run.place_of(machine=0), 2)

    def test_lists_that_are_changed_afterwards(self):
        for own in (False, True):
            batch, cut = as_lists(BATCH), [1, 2]
            run = Run(NET, cut, batch, one_and_one(2, 2, 2), 1, own=own)
            self.assertEqual((batch, cut), (as_lists(BATCH), [1, 2]))
            spoil(batch)
            spoil(cut)
            run.fall(0)
            run.calm()
            self.assertEqual(NET, Net(7, (((2,),), ((3,),), ((4,),)), ("line", "square", "line")))
            other = small_run(own=own)
            other.calm()
            self.assertEqual(run.trained(), other.trained())


class Letters(unittest.TestCase):
    def test_by_hand(self):
        run = small_run()
        self.assertEqual((run.place_of(0), run.place_of(1), len(run)), (2, 0, 0))
        self.assertIsNone(run.post(0))
        self.assertEqual((run.letters(), len(run)), ((("f", 0, 1), ("f", 1, 1)), 2))
        self.assertTrue(all_tuples(run.letters()))
        self.assertIs(run.deliver(1), True)
        self.assertEqual((run.place_of(1), run.letters()), (0, (("f", 0, 1),)))
        self.assertIsNone(run.double(number=0))
        self.assertEqual((run.letters(), len(run)), ((("f", 0, 1), ("f", 0, 1)), 2))
        self.assertIs(run.deliver(number=0), True)
        self.assertEqual(run.place_of(1), 4)
        self.assertIs(run.deliver(0), False)
        self.assertEqual((run.letters(), run.is_done()), ((), False))
        run.post(machine=1)
        run.post(0)
        self.assertEqual(run.letters(), (("b", 0, 0), ("b", 1, 0), ("f", 0, 1), ("f", 1, 1)))
        self.assertIsNone(run.lose(number=1))
        self.assertEqual(run.letters(), (("b", 0, 0), ("f", 0, 1), ("f", 1, 1)))
        self.assertIs(run.deliver(0), True)
        self.assertEqual((run.place_of(0), run.is_done()), (3, False))
        with self.assertRaises(NotDone) as caught:
            run.trained()
        self.assertEqual(caught.exception.machine, 0)
        run.post(1)
        self.assertEqual(run.letters(), (("f", 0, 1), ("f", 1, 1), ("b", 0, 0), ("b", 1, 0)))
        self.assertIs(run.deliver(3), True)
        self.assertIs(run.is_done(), True)
        self.assertEqual(run.trained(), train(NET, BATCH, 1))
        self.assertEqual(run.layers_by_machine(), (3, 6))

    def test_double_is_put_at_the_end(self):
        run = small_run()
        run.post(0)
        run.double(0)
        self.assertEqual(run.letters(), (("f", 0, 1), ("f", 1, 1), ("f", 0, 1)))

    def test_a_letter_that_is_got_twice_after_it_was_used(self):
        run = small_run()
        run.post(0)
        run.post(0)
        self.assertEqual([run.deliver(0) for _ in range(4)], [True, True, False, False])
        self.assertEqual(run.place_of(1), 4)

    def test_falls_by_hand(self):
        run = small_run()
        run.post(0)
        run.deliver(0)
        self.assertEqual((run.place_of(1), run.layers_by_machine()), (2, (3, 4)))
        self.assertIsNone(run.keep(machine=1))
        run.deliver(0)
        self.assertEqual((run.place_of(1), run.layers_by_machine()), (4, (3, 6)))
        self.assertIsNone(run.fall(machine=1))
        self.assertEqual((run.place_of(1), run.layers_by_machine()), (2, (3, 4)))
        run.post(1)
        self.assertEqual(run.letters(), (("b", 0, 0),))
        run.fall(0)
        self.assertEqual(run.place_of(0), 2)
        run.post(0)
        run.lose(0)
        # What it kept it has got: the first letter is new no longer, the second one is again.
        self.assertEqual([run.deliver(0) for _ in range(2)], [False, True])
        run.calm()
        self.assertEqual(run.trained(), train(NET, BATCH, 1))

    def test_a_fall_without_a_kept_stand_goes_back_to_the_beginning(self):
        run = small_run()
        run.post(0)
        run.deliver(0)
        run.deliver(0)
        run.fall(1)
        self.assertEqual((run.place_of(1), run.layers_by_machine()), (0, (3, 0)))
        run.post(0)
        self.assertEqual([run.deliver(0), run.deliver(0)], [True, True])

    def test_a_machine_that_is_done_changes_its_weights_once(self):
        run = small_run()
        run.calm()
        for machine in (0, 1, 1):
            run.keep(machine)
            run.fall(machine)
        run.calm()
        self.assertEqual(run.trained(), train(NET, BATCH, 1))
        for machine in (0, 1):
            run.fall(machine)
        self.assertIs(run.is_done(), True)
        self.assertEqual(run.trained(), train(NET, BATCH, 1))

    def test_calm_uses_the_letters_on_the_way_and_leaves_none(self):
        run = small_run()
        run.post(0)
        run.post(0)
        self.assertIsNone(run.calm())
        self.assertEqual((run.letters(), len(run), run.is_done()), ((), 0, True))
        self.assertIsNone(run.calm())
        self.assertEqual(run.letters(), ())

    def test_against_the_model(self):
        rng = dice(2)
        for _ in range(120):
            net, cut, batch, schedule = some_case(rng)
            again, own, rate = rng.random() < 0.5, rng.random() < 0.3, rng.randint(0, 1000)
            run = Run(net, cut, batch, schedule, rate, again=again, own=own)
            model = Model(cut, batch, schedule, again)
            for _ in range(rng.randint(0, 80)):
                self.one_step(rng, run, model)
                self.compare(run, model)
            run.calm()
            self.assertIs(run.is_done(), True)
            wanted = late_weights(net, cut, batch, schedule, rate) if own else train(net, batch, rate).weights
            self.assertEqual(run.trained(), Net(net.prime, wanted, net.kinds))

    def one_step(self, rng, run, model):
        machine = rng.randrange(model.schedule.machines)
        step = rng.choice(("post", "deliver", "deliver", "deliver", "deliver", "double", "lose", "keep", "fall"))
        if step == "post":
            run.post(machine)
            model.way += model.said(machine)
        elif step in ("keep", "fall"):
            getattr(run, step)(machine)
            getattr(model, step)(machine)
        elif model.way:
            number = rng.randrange(len(model.way))
            if step == "deliver":
                self.assertIs(run.deliver(number), model.deliver(number))
            elif step == "double":
                run.double(number)
                model.way.append(model.way[number])
            else:
                run.lose(number)
                del model.way[number]

    def compare(self, run, model):
        machines = range(model.schedule.machines)
        self.assertEqual(run.letters(), tuple(model.way))
        self.assertEqual(len(run), len(model.way))
        self.assertEqual([run.place_of(machine) for machine in machines], model.places)
        self.assertEqual(run.layers_by_machine(), tuple(model.layers(machine) for machine in machines))
        undone = [machine for machine in machines if not model.is_done(machine)]
        self.assertIs(run.is_done(), not undone)
        if undone:
            with self.assertRaises(NotDone) as caught:
                run.trained()
            self.assertEqual(caught.exception.machine, undone[0])


class NoSuchNumbers(unittest.TestCase):
    def told(self, run, machines):
        places = [run.place_of(machine) for machine in range(machines)]
        return run.letters(), len(run), places, run.is_done(), run.layers_by_machine()

    def test_machines(self):
        for run, machines in ((small_run(), 2), (Run(NET, (3,), BATCH, fill_and_drain(1, 1, 2), 1), 1)):
            run.post(0)
            before = self.told(run, machines)
            for machine in [*ANY_VALUES, machines, machines + 1, 4, "0", (0,)]:
                for asked in (run.post, run.place_of, run.keep, run.fall):
                    with self.assertRaises(NoMachine) as caught:
                        asked(machine)
                    self.assertIs(caught.exception.machine, machine)
            self.assertEqual(self.told(run, machines), before)

    def test_letters(self):
        run = small_run()
        for posted in (False, True):
            before = self.told(run, 2)
            for number in [*ANY_VALUES, len(run), len(run) + 1, -len(run) - 1, "0", (0,)]:
                for asked in (run.deliver, run.double, run.lose):
                    with self.assertRaises(NoLetter) as caught:
                        asked(number)
                    self.assertIs(caught.exception.number, number)
            self.assertEqual(self.told(run, 2), before)
            if not posted:
                run.post(0)
        run.calm()
        self.assertEqual(run.trained(), train(NET, BATCH, 1))

    def test_not_done(self):
        run = Run(NET, (1, 1, 1), BATCH, fill_and_drain(3, 3, 2), 1)
        before = self.told(run, 3)
        with self.assertRaises(NotDone) as caught:
            run.trained()
        self.assertEqual(caught.exception.machine, 0)
        self.assertEqual(self.told(run, 3), before)
        run.calm()
        run.fall(1)
        self.assertEqual(run.place_of(1), 0)
        with self.assertRaises(NotDone) as caught:
            run.trained()
        self.assertEqual(caught.exception.machine, 1)
        self.assertIsInstance(caught.exception, StageError)

    def test_a_run_is_equal_to_nothing_of_another_kind(self):
        run = small_run()
        for other in [*ANY_VALUES, NET]:
            self.assertIs(run == other, False)
            self.assertIs(run != other, True)


class AfterCalm(unittest.TestCase):
    def test_plain_training(self):
        rng = dice(3)
        for _ in range(150):
            net, cut, batch, schedule = some_case(rng)
            rate = rng.randint(0, 1000)
            run = Run(net, as_lists(cut), as_lists(batch), schedule, rate, again=rng.random() < 0.5)
            run.calm()
            self.assertIs(run.is_done(), True)
            self.assertEqual(run.trained(), train(net, batch, rate))
            self.assertTrue(all_tuples(run.trained().weights))
            self.assertTrue(all_tuples(run.layers_by_machine()))

    def test_own(self):
        rng = dice(4)
        others = 0
        for _ in range(150):
            net, cut, batch, schedule = some_case(rng)
            rate = rng.randint(0, 1000)
            run = Run(net, cut, batch, schedule, rate, again=rng.random() < 0.5, own=True)
            run.calm()
            wanted = late_weights(net, cut, batch, schedule, rate)
            self.assertEqual(run.trained(), Net(net.prime, wanted, net.kinds))
            others += run.trained() != train(net, batch, rate)
        self.assertGreater(others, 50)

    def test_all_machines_fall_at_any_time(self):
        rng = dice(5)
        for _ in range(40):
            net, cut, batch, schedule = some_case(rng)
            rate, own = rng.randint(0, 1000), rng.random() < 0.5
            run = Run(net, cut, batch, schedule, rate, own=own)
            for turn in range(4):
                for machine in range(schedule.machines):
                    run.post(machine)
                while len(run):
                    run.deliver(rng.randrange(len(run)))
                    if rng.random() < 0.2:
                        run.keep(rng.randrange(schedule.machines))
                    if rng.random() < 0.2:
                        run.fall(rng.randrange(schedule.machines))
            run.calm()
            wanted = late_weights(net, cut, batch, schedule, rate) if own else train(net, batch, rate).weights
            self.assertEqual(run.trained().weights, wanted)


if __name__ == "__main__":
    unittest.main()
