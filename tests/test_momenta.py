"""[35]: changes by a push that goes on from batch to batch."""

import unittest

from samples import all_tuples, as_lists, dice, some_batch, some_matrix, some_net, spoil
from stagesfull.momenta import pushed, train_pushed, zeros
from stagesfull.nets import Net, portion_slopes, train

RATES = (0, 1, 2, 6, 7, 96, 97, 98, 500, 1000)


def numbers_of(matrices):
    return [number for matrix in matrices for row in matrix for number in row]


def plain_pushed(net, push, slopes, rate, friction, decay):
    """All numbers of the other net and of the other push, in one row each."""
    triples = list(zip(numbers_of(push), numbers_of(slopes), numbers_of(net.weights)))
    other = [(friction * old + slope + decay * w) % net.prime for old, slope, w in triples]
    return [(w - rate * one) % net.prime for (_, _, w), one in zip(triples, other)], other


class Zeros(unittest.TestCase):
    def test_zeros(self):
        rng = dice(1)
        for layers in range(1, 7):
            for width in range(1, 4):
                net = some_net(rng, None, layers, width)
                self.assertEqual(zeros(net=net), (((0,) * width,) * width,) * layers)
                self.assertTrue(all_tuples(zeros(net)))


class Pushed(unittest.TestCase):
    def test_by_hand(self):
        net = Net(7, (((2,),), ((3,),)), ("line", "square"))
        # other push: 3 * 1 + 4 + 5 * 2 = 17 and 3 * 2 + 6 + 5 * 3 = 27; other W: 2 - 2 * 3 and 3 - 2 * 6.
        found = pushed(net, (((1,),), ((2,),)), (((4,),), ((6,),)), 2, 3, 5)
        self.assertEqual(found, (Net(7, (((3,),), ((5,),)), ("line", "square")), (((3,),), ((6,),))))
        self.assertIsInstance(found, tuple)

    def test_against_the_sums_of_the_point(self):
        rng = dice(2)
        for _ in range(300):
            net = some_net(rng)
            push = tuple(some_matrix(rng, net.prime, net.width) for _ in range(len(net)))
            slopes = tuple(some_matrix(rng, net.prime, net.width) for _ in range(len(net)))
            rate, friction, decay = (rng.choice((rng.choice(RATES), rng.randint(0, 1000))) for _ in range(3))
            other, other_push = pushed(net, push, slopes, rate, friction, decay)
            self.assertIsInstance(other, Net)
            self.assertEqual((numbers_of(other.weights), numbers_of(other_push)),
                             plain_pushed(net, push, slopes, rate, friction, decay))
            self.assertEqual([len(matrix) for matrix in other_push], [net.width] * len(net))
            self.assertEqual((other.prime, other.kinds), (net.prime, net.kinds))
            self.assertTrue(all_tuples(other_push))
            self.assertTrue(all_tuples(other.weights))

    def test_friction_decay_and_rate_above_the_prime(self):
        net = Net(5, (((2, 3), (4, 1)),), ("line",))
        push, slopes = (((1, 2), (3, 4)),), (((4, 0), (2, 2)),)
        low = pushed(net, push, slopes, 3, 2, 4)
        self.assertEqual(pushed(net, push, slopes, 998, 997, 999), low)
        for place in range(3):
            numbers = [3, 2, 4]
            numbers[place] = 0
            self.assertNotEqual(pushed(net, push, slopes, *numbers), low)

    def test_lists_and_names(self):
        net = Net(5, (((2, 3), (4, 1)),), ("square",))
        push, slopes = [[[1, 2], [3, 4]]], [[[4, 0], [2, 2]]]
        found = pushed(decay=4, friction=2, rate=3, slopes=slopes, push=push, net=net)
        self.assertEqual((push, slopes), ([[[1, 2], [3, 4]]], [[[4, 0], [2, 2]]]))
        spoil(push)
        spoil(slopes)
        self.assertEqual(found, pushed(net, (((1, 2), (3, 4)),), (((4, 0), (2, 2)),), 3, 2, 4))
        self.assertEqual(net, Net(5, (((2, 3), (4, 1)),), ("square",)))


class TrainPushed(unittest.TestCase):
    def test_no_batch(self):
        net = Net(7, (((2,),), ((3,),)), ("line", "square"))
        for batches in ((), []):
            self.assertEqual(train_pushed(net, batches, 1, 2, 3), (net, zeros(net)))

    def test_batch_after_batch(self):
        rng = dice(3)
        for _ in range(100):
            net = some_net(rng)
            batches = [some_batch(rng, net) for _ in range(rng.randint(0, 4))]
            rate, friction, decay = (rng.randint(0, 1000) for _ in range(3))
            wanted = (net, tuple(((0,) * net.width,) * net.width for _ in range(len(net))))
            for batch in batches:
                slopes = [portion_slopes(wanted[0], portion) for portion in batch]
                sums = [sum(numbers) for numbers in zip(*map(numbers_of, slopes))]
                weights, push = plain_pushed(wanted[0], wanted[1], [[sums]], rate, friction, decay)
                wanted = (Net(net.prime, self.matrices(net, weights), net.kinds), self.matrices(net, push))
            for given in (batches, tuple(batches), as_lists(batches)):
                found = train_pushed(decay=decay, friction=friction, rate=rate, batches=given, net=net)
                self.assertEqual(found, wanted)
                self.assertTrue(all_tuples(found[1]))
                self.assertIsInstance(found, tuple)

    def matrices(self, net, numbers):
        rows = [tuple(numbers[at:at + net.width]) for at in range(0, len(numbers), net.width)]
        return tuple(tuple(rows[at:at + net.width]) for at in range(0, len(rows), net.width))

    def test_without_friction_and_decay(self):
        rng = dice(4)
        for _ in range(100):
            net = some_net(rng)
            batches = [some_batch(rng, net) for _ in range(rng.randint(0, 5))]
            rate = rng.randint(0, 1000)
            wanted = net
            for batch in batches:
                wanted = train(wanted, batch, rate)
            self.assertEqual(train_pushed(net, batches, rate, 0, 0)[0], wanted)

    def test_the_push_goes_on(self):
        net = Net(11, (((1,),),), ("line",))
        batch = ((((1,), (2,)),),)
        # Slopes -2 and then 0; with friction 3 the second push is 3 * -2.
        self.assertEqual(train_pushed(net, (batch,), 6, 3, 0), (Net(11, (((2,),),), ("line",)), (((9,),),)))
        self.assertEqual(train_pushed(net, (batch,) * 2, 6, 3, 0), (Net(11, (((5,),),), ("line",)), (((5,),),)))


if __name__ == "__main__":
    unittest.main()
