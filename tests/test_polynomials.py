"""[36]: the loss, and the polynomial in t that it is."""

import unittest

from samples import all_tuples, as_lists, dice, some_batch, some_net
from stagesfull.nets import Net, forward, portion_slopes
from stagesfull.polynomials import at, loss, loss_polynomial


def plain_loss(net, batch):
    return sum((out - wanted) ** 2 for portion in batch for vector, target in portion
               for out, wanted in zip(forward(net, vector), target)) % net.prime


def with_added(net, layer, i, k, number):
    """The net with number added to one weight."""
    weights = as_lists(net.weights)
    weights[layer][i][k] = (weights[layer][i][k] + number) % net.prime
    return Net(net.prime, weights, net.kinds)


class BigNumber:
    """The polynomial of [36] by whole numbers: all sums and products with a t far above all numbers in it."""

    T = 10 ** 200

    def numbers(self, net, batch, layer, i, k):
        weights = as_lists(net.weights)
        weights[layer][i][k] += self.T
        total = 0
        for portion in batch:
            for vector, target in portion:
                for matrix, kind in zip(weights, net.kinds):
                    vector = [sum(w * x for w, x in zip(row, vector)) for row in matrix]
                    if kind == "square":
                        vector = [y * y for y in vector]
                # prime - target for -target keeps all numbers from 0 on.
                total += sum((out + net.prime - wanted) ** 2 for out, wanted in zip(vector, target))
        found = []
        while total:
            found.append(total % self.T % net.prime)
            total //= self.T
        while found and found[-1] == 0:
            found.pop()
        return tuple(found)


class Loss(unittest.TestCase):
    def test_by_hand(self):
        net = Net(7, (((2,),), ((3,),)), ("line", "square"))
        # 6 * 6 = 1 comes out for 1, and 12 * 12 = 4 for 2.
        self.assertEqual(loss(net, ((((1,), (1,)),), (((2,), (0,)),))), 2)
        self.assertEqual(loss(net, ((((1,), (3,)), ((2,), (0,))),)), 6)
        self.assertEqual(loss(batch=[[[[0], [0]]]], net=net), 0)

    def test_against_the_squares(self):
        rng = dice(1)
        for _ in range(200):
            net = some_net(rng)
            batch = some_batch(rng, net)
            for given in (batch, as_lists(batch)):
                found = loss(net, given)
                self.assertEqual(found, plain_loss(net, batch))
                self.assertIs(type(found), int)


class LossPolynomial(unittest.TestCase):
    def test_by_hand(self):
        # (3 * (2 + t) - 1) ** 2 = 25 + 30 * t + 9 * t ** 2.
        line = Net(11, (((2,),),), ("line",))
        batch = ((((3,), (1,)),),)
        self.assertEqual(loss_polynomial(line, batch, 0, 0, 0), (3, 8, 9))
        # ((2 + t) ** 2 - 1) ** 2 = (3 + 4 * t + t ** 2) ** 2.
        square = Net(11, (((2,),),), ("square",))
        self.assertEqual(loss_polynomial(square, ((((1,), (1,)),),), 0, 0, 0), (9, 2, 0, 8, 1))
        self.assertEqual(loss_polynomial(k=0, i=0, layer=0, batch=[[[[1], [1]]]], net=square), (9, 2, 0, 8, 1))

    def test_t_to_the_prime_is_not_t(self):
        self.assertEqual(loss_polynomial(Net(2, (((0,),),), ("line",)), ((((1,), (0,)),),), 0, 0, 0), (0, 0, 1))
        self.assertEqual(loss_polynomial(Net(2, (((1,),),), ("square",)), ((((1,), (1,)),),), 0, 0, 0),
                         (0, 0, 0, 0, 1))
        net = Net(3, (((1,),), ((1,),), ((1,),)), ("square",) * 3)
        # (t + 1) ** 16 is (t ** 9 + 1) * (t ** 3 + 1) ** 2 * (t + 1).
        numbers = [0] * 17
        for one in (0, 9):
            for other, times in ((0, 1), (3, 2), (6, 1)):
                for last in (0, 1):
                    numbers[one + other + last] = times
        self.assertEqual(loss_polynomial(net, ((((1,), (0,)),),), 0, 0, 0), tuple(numbers))

    def test_no_zeros_at_the_end(self):
        net = Net(5, (((2, 1), (0, 3)),), ("line",))
        # What comes in at place 1 is 0, so the weight does not matter.
        batch = ((((1, 0), (2, 4)),),)
        self.assertEqual(loss_polynomial(net, batch, 0, 0, 1), (1,))
        # Nothing is lost, whatever the weight is.
        self.assertEqual(loss_polynomial(net, ((((0, 0), (0, 0)),),), 0, 0, 0), ())
        self.assertEqual(loss_polynomial(net, ((((1, 0), (2, 0)),),), 0, 0, 1), ())
        # 3 examples, each with t ** 2: none of them is left modulo 3.
        three = Net(3, (((0,),),), ("line",))
        self.assertEqual(loss_polynomial(three, ((((1,), (0,)),) * 3,), 0, 0, 0), ())
        self.assertEqual(loss_polynomial(three, ((((1,), (1,)),) * 2 + (((1,), (0,)),),), 0, 0, 0), (2, 2))

    def test_against_whole_numbers(self):
        rng = dice(2)
        big = BigNumber()
        for turn in range(200):
            net = some_net(rng, (2, 3, None)[turn % 3], rng.randint(1, 3))
            batch = some_batch(rng, net, rng.randint(1, 3))
            layer = rng.randrange(len(net))
            i, k = rng.randrange(net.width), rng.randrange(net.width)
            found = loss_polynomial(net, batch, layer, i, k)
            self.assertEqual(found, big.numbers(net, batch, layer, i, k))
            self.assertEqual(loss_polynomial(net, as_lists(batch), layer, i, k), found)
            self.assertTrue(all_tuples(found))
            self.assertTrue(not found or found[-1] != 0)

    def test_six_square_layers(self):
        net = Net(5, (((1,),),) * 6, ("square",) * 6)
        found = loss_polynomial(net, ((((1,), (0,)),),), 0, 0, 0)
        # (t + 1) ** 128, and 128 is 1003 to the base 5.
        self.assertEqual(len(found), 129)
        self.assertEqual([place for place, number in enumerate(found) if number],
                         [0, 1, 2, 3, 125, 126, 127, 128])

    def test_it_tells_the_loss_for_each_t_and_the_slope(self):
        rng = dice(3)
        for turn in range(150):
            net = some_net(rng, (2, 3, None)[turn % 3], rng.randint(1, 4))
            batch = some_batch(rng, net, rng.randint(1, 3))
            layer = rng.randrange(len(net))
            i, k = rng.randrange(net.width), rng.randrange(net.width)
            found = loss_polynomial(net, batch, layer, i, k)
            for number in (*range(min(net.prime, 8)), net.prime - 1, net.prime + 1, 1000):
                wanted = plain_loss(with_added(net, layer, i, k, number), batch)
                self.assertEqual(at(net, found, number), wanted)
                self.assertEqual(loss(with_added(net, layer, i, k, number), batch), wanted)
            slope = sum(portion_slopes(net, portion)[layer][i][k] for portion in batch) % net.prime
            self.assertEqual((*found, 0, 0)[1], slope)


class At(unittest.TestCase):
    def test_at(self):
        rng = dice(4)
        net = Net(7, (((1,),),), ("line",))
        self.assertEqual(at(net, (), 3), 0)
        self.assertEqual(at(net, (5,), 3), 5)
        self.assertEqual(at(net, (1, 2, 3), 2), 3)
        self.assertEqual(at(number=2, polynomial=[1, 2, 3], net=net), 3)
        for _ in range(200):
            net = some_net(rng)
            polynomial = [rng.randrange(net.prime) for _ in range(rng.randint(0, 20))]
            for number in (0, 1, 2, net.prime - 1, net.prime, net.prime + 1, rng.randint(0, 10 ** 6)):
                wanted = sum(one * number ** place for place, one in enumerate(polynomial)) % net.prime
                self.assertEqual(at(net, polynomial, number), wanted)
                self.assertEqual(at(net, tuple(polynomial), number), wanted)


if __name__ == "__main__":
    unittest.main()
