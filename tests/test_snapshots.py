"""[27]: snapshots of runs, and the runs that go on from them."""

import inspect
import json
import unittest

from samples import all_tuples, as_lists, dice, late_weights, some_case, spoil
from stagesfull.errors import InvalidCut, NoLetter, NoMachine, NotDone
from stagesfull.nets import Net, train
from stagesfull.rules import fill_and_drain, one_and_one
from stagesfull.runs import Run
from stagesfull.snapshots import restored, snapshot

NET = Net(89, (((2,),), ((3,),), ((4,),)), ("line", "square", "line"))
BATCH = ((((1,), (2,)), ((3,), (4,))), (((5,), (6,)),))
MADE = (NET, (1, 2), BATCH, one_and_one(2, 2, 2), 3)
STEPS = ("post", "post", "deliver", "deliver", "deliver", "deliver", "deliver", "double", "lose", "keep", "fall")


def told(run, machines):
    """All that a run tells of itself."""
    try:
        trained = run.trained()
    except NotDone as error:
        trained = error.machine
    places = [run.place_of(machine) for machine in range(machines)]
    return run.letters(), len(run), places, run.is_done(), run.layers_by_machine(), trained


def some_steps(rng, machines, many):
    """Steps with a machine and with where in the row of letters there is one, if there is any."""
    return [(rng.choice(STEPS), rng.randrange(machines), rng.random()) for _ in range(many)]


def do(run, step):
    """Do a step; what it tells."""
    name, machine, where = step
    if name in ("post", "keep", "fall"):
        return getattr(run, name)(machine)
    return getattr(run, name)(int(where * len(run))) if len(run) else None


class Snapshots(unittest.TestCase):
    def same(self, runs, machines, steps):
        """Do the same steps in all runs, which are to tell the same."""
        self.assertEqual([told(run, machines) for run in runs[1:]], [told(runs[0], machines)] * (len(runs) - 1))
        for step in steps:
            found = [do(run, step) for run in runs]
            self.assertEqual(found[1:], found[:1] * (len(runs) - 1))
            self.assertEqual([told(run, machines) for run in runs[1:]], [told(runs[0], machines)] * (len(runs) - 1))

    def calmed(self, runs, machines, wanted):
        for run in runs:
            self.assertIsNone(run.calm())
            self.assertEqual(run.trained(), wanted)
        self.assertEqual([told(run, machines) for run in runs[1:]], [told(runs[0], machines)] * (len(runs) - 1))

    def test_by_hand(self):
        run = Run(*MADE)
        run.post(0)
        run.deliver(0)
        run.keep(1)
        run.double(0)
        saved = snapshot(run)
        self.assertIsInstance(saved, tuple)
        other = restored(*MADE, saved)
        self.assertIsInstance(other, Run)
        self.assertEqual(other.letters(), (("f", 1, 1), ("f", 1, 1)))
        self.assertEqual((len(other), other.place_of(0), other.place_of(1)), (2, 2, 2))
        self.assertEqual(other.layers_by_machine(), (3, 4))
        self.assertIs(other.deliver(1), True)
        self.assertIs(other.deliver(0), False)
        self.assertEqual((other.place_of(1), other.letters()), (4, ()))
        # It falls to what was kept ahead of the snapshot.
        other.fall(1)
        self.assertEqual((other.place_of(1), other.layers_by_machine()), (2, (3, 4)))
        # Machine 0 has kept nothing: it falls to its beginning, and goes on.
        other.fall(0)
        self.assertEqual(other.place_of(0), 2)
        self.assertEqual((run.letters(), run.place_of(1)), ((("f", 1, 1), ("f", 1, 1)), 2))
        for one in (run, other):
            one.calm()
            self.assertEqual(one.trained(), train(NET, BATCH, 3))

    def test_names_of_the_arguments(self):
        run = Run(*MADE, again=True, own=True)
        saved = snapshot(run=run)
        names = list(inspect.signature(Run).parameters)
        given = dict(zip(names, (*MADE, True, True)))
        other = restored(saved=saved, **given)
        self.same([run, other], 2, [("post", 0, 0), ("deliver", 0, 0), ("deliver", 0, 0), ("post", 1, 0)])
        with self.assertRaises(TypeError):
            restored(*MADE, saved, True)

    def test_no_objects_of_this_package(self):
        rng = dice(1)
        for _ in range(60):
            net, cut, batch, schedule = some_case(rng)
            run = Run(net, as_lists(cut), as_lists(batch), schedule, 5, again=rng.random() < 0.5,
                      own=rng.random() < 0.5)
            for step in [None, *some_steps(rng, schedule.machines, 25)]:
                if step:
                    do(run, step)
                saved = snapshot(run)
                self.assertIsInstance(saved, tuple)
                self.assertTrue(all_tuples(saved))

    def test_both_tell_the_same(self):
        rng = dice(2)
        for _ in range(250):
            net, cut, batch, schedule = some_case(rng)
            machines, rate, again, own = schedule.machines, rng.randint(0, 1000), rng.random() < 0.5, rng.random() < 0.5
            made = (net, cut, batch, schedule, rate)
            run = Run(*made, again=again, own=own)
            for step in some_steps(rng, machines, rng.randint(0, 60)):
                do(run, step)
            if rng.random() < 0.1:
                run.calm()
            before = told(run, machines)
            saved = snapshot(run)
            self.assertEqual(told(run, machines), before)
            other = restored(*made, saved, again=again, own=own)
            self.assertEqual(told(run, machines), before)
            self.same([run, other], machines, some_steps(rng, machines, rng.randint(0, 60)))
            wanted = late_weights(net, cut, batch, schedule, rate) if own else train(net, batch, rate).weights
            self.calmed([run, other], machines, Net(net.prime, wanted, net.kinds))
            self.same([run, other], machines, [("fall", machine, 0) for machine in range(machines)])
            self.calmed([run, other], machines, Net(net.prime, wanted, net.kinds))

    def test_all_fall_to_what_was_kept_ahead_of_the_snapshot(self):
        rng = dice(3)
        fell = 0
        for _ in range(80):
            net, cut, batch, schedule = some_case(rng)
            machines, again, own = schedule.machines, rng.random() < 0.5, rng.random() < 0.5
            made = (net, cut, batch, schedule, 7)
            run = Run(*made, again=again, own=own)
            for part in range(3):
                for step in some_steps(rng, machines, 25):
                    if step[0] not in ("keep", "fall"):
                        do(run, step)
                if part == 0:
                    for machine in range(machines):
                        run.keep(machine)
                if part == 1:
                    other = restored(*made, snapshot(run), again=again, own=own)
                    third = restored(*made, snapshot(run), again=again, own=own)
            for machine in range(machines):
                run.fall(machine)
            # What the first one has done since then is gone, but its letters on the way are others.
            while len(run):
                run.lose(0)
            places = [other.place_of(machine) for machine in range(machines)]
            for one in (other, third):
                for machine in range(machines):
                    one.fall(machine)
                while len(one):
                    one.lose(0)
            fell += places != [other.place_of(machine) for machine in range(machines)]
            self.same([run, other, third], machines, some_steps(rng, machines, 30))
        self.assertGreater(fell, 10)

    def test_several_runs_from_one_snapshot(self):
        rng = dice(4)
        for _ in range(60):
            net, cut, batch, schedule = some_case(rng)
            machines, own = schedule.machines, rng.random() < 0.5
            made = (net, cut, batch, schedule, 7)
            run = Run(*made, own=own)
            for step in some_steps(rng, machines, 30):
                do(run, step)
            saved = snapshot(run)
            before = told(run, machines)
            steps = some_steps(rng, machines, 30)
            first = restored(*made, saved, own=own)
            for step in steps:
                do(first, step)
            # Neither the first run nor the snapshot has changed, whatever was done to another one.
            self.assertEqual(told(run, machines), before)
            second = restored(*made, saved, own=own)
            self.assertEqual(told(second, machines), before)
            for step in steps:
                do(second, step)
            third = restored(*made, saved, own=own)
            for step in steps:
                do(run, step)
                do(third, step)
            self.same([run, first, second, third], machines, some_steps(rng, machines, 20))

    def test_a_snapshot_of_a_restored_run(self):
        rng = dice(5)
        for _ in range(40):
            net, cut, batch, schedule = some_case(rng)
            machines, again, own = schedule.machines, rng.random() < 0.5, rng.random() < 0.5
            made = (net, cut, batch, schedule, 9)
            run = Run(*made, again=again, own=own)
            other = run
            for _ in range(4):
                other = restored(*made, snapshot(other), again=again, own=own)
                self.same([run, other], machines, some_steps(rng, machines, 15))

    def test_lists_in_place_of_tuples(self):
        rng = dice(6)
        for _ in range(40):
            net, cut, batch, schedule = some_case(rng)
            run = Run(net, cut, batch, schedule, 9)
            for step in some_steps(rng, schedule.machines, 30):
                do(run, step)
            saved, cut, batch = json.loads(json.dumps(snapshot(run))), as_lists(cut), as_lists(batch)
            before = as_lists([saved, cut, batch])
            other = restored(net, cut, batch, schedule, 9, saved)
            self.assertEqual([saved, cut, batch], before)
            for value in (saved, cut, batch):
                spoil(value)
            self.same([run, other], schedule.machines, some_steps(rng, schedule.machines, 30))
            self.assertTrue(all_tuples(snapshot(other)))

    def test_all_runs_that_may_be_made(self):
        for made in (MADE, (NET, (3,), BATCH, fill_and_drain(1, 1, 2), 2), (NET, (1, 1, 1), BATCH,
                                                                           fill_and_drain(1, 3, 2), 1),
                     (NET, (1, 1, 1), BATCH, fill_and_drain(3, 3, 2), 0)):
            for again in (False, True):
                for own in (False, True):
                    run = Run(*made, again=again, own=own)
                    other = restored(*made, snapshot(run), again=again, own=own)
                    run.calm()
                    late = restored(*made, snapshot(run), again=again, own=own)
                    other.calm()
                    self.assertEqual(told(other, made[3].machines), told(run, made[3].machines))
                    self.assertEqual(told(late, made[3].machines), told(run, made[3].machines))

    def test_errors_of_a_restored_run(self):
        run = Run(*MADE)
        run.post(0)
        other = restored(*MADE, snapshot(run))
        for number in (2, -1, None, True, "0"):
            for asked in (other.deliver, other.double, other.lose):
                with self.assertRaises(NoLetter):
                    asked(number)
            for asked in (other.post, other.place_of, other.keep, other.fall):
                with self.assertRaises(NoMachine):
                    asked(number)
        with self.assertRaises(InvalidCut):
            restored(NET, (2, 2), *MADE[2:], snapshot(run))


if __name__ == "__main__":
    unittest.main()
