"""[32], [19]: rings, turn by turn."""

import unittest

from samples import ANY_VALUES, all_tuples, dice
from stagesfull.errors import NoLetter, NoMachine
from stagesfull.rings import Ring


def places_of(n, machines, part):
    return list(range(part * n // machines, (part + 1) * n // machines))


def turn_by_turn(vectors):
    """The rows of all machines ahead of each turn, and behind the last one: all machines go at once."""
    machines, n = len(vectors), len(vectors[0])
    states = [[list(row) for row in vectors]]
    for turn in range(2 * machines - 2):
        rows = [list(row) for row in states[-1]]
        for machine in range(machines):
            to = (machine + 1) % machines
            for place in places_of(n, machines, (machine - turn) % machines):
                number = states[-1][machine][place]
                rows[to][place] = number + rows[to][place] if turn <= machines - 2 else number
        states.append(rows)
    return states


class Model:
    """What a ring tells; a machine's row follows from how many letters it has used."""

    def __init__(self, vectors):
        self.states = turn_by_turn(vectors)
        self.machines, self.n = len(vectors), len(vectors[0])
        self.turns = 2 * self.machines - 2
        self.got = [set() for _ in vectors]
        self.way = []

    def used(self, machine):
        return next(turn for turn in range(self.turns + 1) if turn not in self.got[machine])

    def said(self, machine):
        return [(turn, (machine + 1) % self.machines) for turn in range(min(self.used(machine) + 1, self.turns))]

    def row(self, machine):
        return tuple(self.states[self.used(machine)][machine])

    def numbers_said(self):
        return sum(len(places_of(self.n, self.machines, (machine - turn) % self.machines))
                   for machine in range(self.machines) for turn, _ in self.said(machine))

    def is_done(self):
        return all(self.used(machine) == self.turns for machine in range(self.machines))

    def deliver(self, number):
        turn, to = self.way.pop(number)
        new = turn not in self.got[to]
        self.got[to].add(turn)
        return new


def some_vectors(rng, machines=None, n=None):
    machines = rng.randint(1, 6) if machines is None else machines
    n = rng.choice((0, 1, 2, machines, rng.randint(0, 20))) if n is None else n
    most = rng.choice((1, 5, 10 ** 30))
    return [[rng.randint(-most, most) for _ in range(n)] for _ in range(machines)]


def told(ring, machines):
    rows = [ring.row(machine) for machine in range(machines)]
    return ring.letters(), len(ring), rows, ring.is_done(), ring.numbers_said


class ByHand(unittest.TestCase):
    def test_two_machines(self):
        ring = Ring(((1, 2, 3), (10, 20, 30)))
        # Part 0 has place 0, part 1 the places 1 and 2.
        self.assertEqual((ring.letters(), len(ring), ring.is_done(), ring.numbers_said), ((), 0, False, 3))
        self.assertIsNone(ring.post(0))
        self.assertEqual((ring.letters(), len(ring)), (((0, 1),), 1))
        self.assertIs(ring.deliver(0), True)
        # Machine 0 has sent its part 0 to machine 1, which added it and now sends the sum in turn 1.
        self.assertEqual((ring.row(0), ring.row(1)), ((1, 2, 3), (11, 20, 30)))
        self.assertEqual((ring.letters(), ring.numbers_said), ((), 4))
        self.assertIsNone(ring.post(machine=1))
        self.assertEqual(ring.letters(), ((0, 0), (1, 0)))
        # The letter of turn 1 is ahead of its turn: it waits.
        self.assertIs(ring.deliver(number=1), True)
        self.assertEqual((ring.row(0), ring.numbers_said), ((1, 2, 3), 4))
        self.assertIs(ring.deliver(0), True)
        self.assertEqual((ring.row(machine=0), ring.numbers_said, ring.is_done()), ((11, 22, 33), 6, False))
        ring.post(0)
        self.assertEqual(ring.letters(), ((0, 1), (1, 1)))
        self.assertIs(ring.deliver(0), False)
        self.assertEqual(ring.row(1), (11, 20, 30))
        self.assertIs(ring.deliver(0), True)
        self.assertEqual((ring.row(1), ring.is_done(), ring.numbers_said), ((11, 22, 33), True, 6))

    def test_double_and_lose(self):
        ring = Ring([[1], [2], [3]])
        for machine in range(3):
            ring.post(machine)
        self.assertEqual(ring.letters(), ((0, 1), (0, 2), (0, 0)))
        self.assertIsNone(ring.double(number=1))
        self.assertEqual(ring.letters(), ((0, 1), (0, 2), (0, 0), (0, 2)))
        self.assertIsNone(ring.lose(number=0))
        self.assertEqual((ring.letters(), len(ring)), (((0, 2), (0, 0), (0, 2)), 3))
        self.assertEqual([ring.deliver(0) for _ in range(3)], [True, True, False])
        self.assertEqual((ring.letters(), ring.is_done()), ((), False))
        # What was lost is said again.
        self.assertIsNone(ring.calm())
        self.assertEqual([ring.row(machine) for machine in range(3)], [(6,)] * 3)

    def test_three_machines_with_one_number(self):
        # Only part 2 has a place: machine 2 sends it first.
        ring = Ring(([1], [2], [4]))
        self.assertEqual(ring.numbers_said, 1)
        for wanted in (((1,), (2,), (4,)), ((5,), (2,), (4,)), ((5,), (7,), (4,)), ((5,), (7,), (7,)),
                       ((7,), (7,), (7,))):
            self.assertEqual(tuple(ring.row(machine) for machine in range(3)), wanted)
            for machine in range(3):
                ring.post(machine)
            many = len(ring)
            for _ in range(many):
                ring.deliver(0)
        self.assertIs(ring.is_done(), True)
        self.assertEqual(ring.numbers_said, 4)

    def test_one_machine(self):
        for row in ((), (1,), [3, -4, 10 ** 40]):
            ring = Ring([row])
            self.assertEqual(told(ring, 1), ((), 0, [tuple(row)], True, 0))
            ring.post(0)
            ring.calm()
            self.assertEqual(told(ring, 1), ((), 0, [tuple(row)], True, 0))

    def test_rows_of_no_numbers(self):
        for machines in range(1, 7):
            ring = Ring([()] * machines)
            self.assertIs(ring.is_done(), machines == 1)
            ring.calm()
            self.assertEqual(told(ring, machines), ((), 0, [()] * machines, True, 0))

    def test_numbers_above_and_below_any_prime(self):
        ring = Ring(vectors=[[-5, 10 ** 50], [-6, 10 ** 50]])
        ring.calm()
        self.assertEqual(ring.row(0), (-11, 2 * 10 ** 50))

    def test_lists_that_are_changed_afterwards(self):
        vectors = [[1, 2], [3, 4]]
        ring = Ring(vectors)
        ring.calm()
        self.assertEqual(vectors, [[1, 2], [3, 4]])
        ring = Ring(vectors)
        vectors[0][0] = 100
        vectors[1] = None
        vectors.append([1, 1])
        ring.calm()
        self.assertEqual(told(ring, 2), ((), 0, [(4, 6)] * 2, True, 4))

    def test_a_ring_is_equal_to_nothing_of_another_kind(self):
        ring = Ring([[1], [2]])
        for other in ANY_VALUES:
            self.assertIs(ring == other, False)
            self.assertIs(ring != other, True)


class AgainstTheModel(unittest.TestCase):
    def compare(self, ring, model):
        machines = range(model.machines)
        self.assertEqual(ring.letters(), tuple(model.way))
        self.assertEqual(len(ring), len(model.way))
        self.assertEqual([ring.row(machine) for machine in machines], [model.row(machine) for machine in machines])
        self.assertIs(ring.is_done(), model.is_done())
        self.assertEqual(ring.numbers_said, model.numbers_said())
        self.assertTrue(all_tuples((ring.letters(), ring.row(0))))

    def one_step(self, rng, ring, model):
        step = rng.choice(("post", "deliver", "deliver", "deliver", "double", "lose"))
        if step == "post":
            machine = rng.randrange(model.machines)
            ring.post(machine)
            model.way += model.said(machine)
        elif model.way:
            number = rng.randrange(len(model.way))
            if step == "deliver":
                self.assertIs(ring.deliver(number), model.deliver(number))
            elif step == "double":
                ring.double(number)
                model.way.append(model.way[number])
            else:
                ring.lose(number)
                del model.way[number]

    def test_letters_in_any_order_twice_and_lost(self):
        rng = dice(1)
        for _ in range(150):
            vectors = some_vectors(rng)
            ring, model = Ring(vectors), Model(vectors)
            self.compare(ring, model)
            for _ in range(rng.randint(0, 100)):
                self.one_step(rng, ring, model)
                self.compare(ring, model)
            ring.calm()
            self.check_sums(ring, vectors)

    def test_turn_by_turn(self):
        for machines in range(1, 7):
            for n in range(2 * machines + 2):
                vectors = some_vectors(dice(machines * 100 + n), machines, n)
                ring, model = Ring(tuple(map(tuple, vectors))), Model(vectors)
                for turn in range(2 * machines - 2):
                    for machine in range(machines):
                        ring.post(machine)
                        model.way += model.said(machine)
                    self.compare(ring, model)
                    while model.way:
                        self.assertIs(ring.deliver(0), model.deliver(0))
                    self.assertEqual([list(ring.row(machine)) for machine in range(machines)],
                                     model.states[turn + 1])
                    self.compare(ring, model)
                self.check_sums(ring, vectors)

    def test_last_turns_first(self):
        vectors = some_vectors(dice(3), 5, 13)
        ring, model = Ring(vectors), Model(vectors)
        # All letters but one come to machine 2, the last ones first; it uses them when the first one comes.
        for _ in range(9):
            for machine in range(5):
                ring.post(machine)
                model.way += model.said(machine)
            while model.way:
                number = len(model.way) - 1
                if model.way[number] == (0, 2):
                    ring.lose(number)
                    del model.way[number]
                else:
                    self.assertIs(ring.deliver(number), model.deliver(number))
                self.compare(ring, model)
        self.assertEqual(ring.row(2), tuple(vectors[2]))
        self.assertEqual([model.used(machine) for machine in range(5)], [3, 4, 0, 1, 2])
        self.assertIs(ring.is_done(), False)
        ring.calm()
        self.check_sums(ring, vectors)

    def check_sums(self, ring, vectors):
        wanted = tuple(map(sum, zip(*vectors)))
        for machine in range(len(vectors)):
            self.assertEqual(ring.row(machine), wanted)
        self.assertEqual(ring.numbers_said, 2 * (len(vectors) - 1) * len(vectors[0]))
        self.assertIs(ring.is_done(), True)
        self.assertEqual((ring.letters(), len(ring)), ((), 0))

    def test_after_calm(self):
        rng = dice(2)
        for machines in range(1, 7):
            for n in range(20):
                vectors = some_vectors(rng, machines, n)
                ring = Ring(vectors)
                self.assertIsNone(ring.calm())
                self.check_sums(ring, vectors)
                self.assertIsNone(ring.calm())
                self.check_sums(ring, vectors)

    def test_calm_delivers_what_is_on_the_way(self):
        ring = Ring([[1], [2], [3]])
        ring.post(2)
        ring.post(2)
        ring.calm()
        self.check_sums(ring, [[1], [2], [3]])


class NoSuchNumbers(unittest.TestCase):
    def test_machines(self):
        for machines in (1, 2, 6):
            ring = Ring([[1, 2]] * machines)
            ring.post(0)
            before = told(ring, machines)
            for machine in [*ANY_VALUES, machines, machines + 1, "0", (0,)]:
                for asked in (ring.post, ring.row):
                    with self.assertRaises(NoMachine) as caught:
                        asked(machine)
                    self.assertIs(caught.exception.machine, machine)
            self.assertEqual(told(ring, machines), before)

    def test_letters(self):
        ring = Ring([[1, 2]] * 3)
        for posted in range(3):
            before = told(ring, 3)
            for number in [*ANY_VALUES, len(ring), len(ring) + 1, -len(ring) - 1, "0", (0,)]:
                for asked in (ring.deliver, ring.double, ring.lose):
                    with self.assertRaises(NoLetter) as caught:
                        asked(number)
                    self.assertIs(caught.exception.number, number)
            self.assertEqual(told(ring, 3), before)
            ring.post(posted)
        ring.calm()
        self.assertEqual(ring.row(1), (3, 6))


if __name__ == "__main__":
    unittest.main()
