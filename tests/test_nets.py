"""[5], [6], [7]: nets and plain training."""

import unittest
from itertools import product
from unittest.mock import ANY

from samples import (ANY_VALUES, PRIMES, all_tuples, as_lists, dice, some_batch, some_matrix, some_net,
                     some_portion, some_vector, spoil)
from stagesfull.errors import InvalidNumber
from stagesfull.nets import (Net, changed, forward, layer_back, layer_forward, portion_slopes, train)


def poly_add(one, other, prime):
    size = max(len(one), len(other))
    one = list(one) + [0] * (size - len(one))
    other = list(other) + [0] * (size - len(other))
    return [(a + b) % prime for a, b in zip(one, other)]


def poly_mul(one, other, prime):
    found = [0] * (len(one) + len(other) - 1)
    for i, a in enumerate(one):
        for k, b in enumerate(other):
            found[i + k] = (found[i + k] + a * b) % prime
    return found


def loss_in_t(net, portion, layer, i, k):
    """The sum of the losses as a polynomial in t, t added to W[i][k] of the layer."""
    total = [0]
    for vector, target in portion:
        came = [[x] for x in vector]
        for at in range(len(net)):
            out = []
            for row_number in range(net.width):
                y = [0]
                for column in range(net.width):
                    weight = [net.weights[at][row_number][column]]
                    if (at, row_number, column) == (layer, i, k):
                        weight = [weight[0], 1]
                    y = poly_add(y, poly_mul(weight, came[column], net.prime), net.prime)
                out.append(poly_mul(y, y, net.prime) if net.kinds[at] == "square" else y)
            came = out
        for number, wanted in zip(came, target):
            less = poly_add(number, [-wanted % net.prime], net.prime)
            total = poly_add(total, poly_mul(less, less, net.prime), net.prime)
    return total


class Nets(unittest.TestCase):
    def test_the_documents_example(self):
        net = Net(7, (((2,),), ((3,),)), ("line", "square"))
        self.assertEqual(train(net, ((((1,), (1,)),), (((2,), (0,)),)), 1).weights, (((5,),), ((5,),)))

    def test_nets_of_each_size(self):
        rng = dice(1)
        for layers, width in product(range(1, 7), range(1, 4)):
            weights = tuple(some_matrix(rng, 97, width) for _ in range(layers))
            kinds = tuple(rng.choice(("line", "square")) for _ in range(layers))
            net = Net(97, weights, kinds)
            self.assertEqual((net.prime, net.weights, net.kinds), (97, weights, kinds))
            self.assertEqual((len(net), net.width), (layers, width))

    def test_all_primes(self):
        for prime in PRIMES:
            self.assertEqual(Net(prime, (((1,),),), ("line",)).prime, prime)

    def test_primes_that_are_none(self):
        numbers = [number for number in range(-10, 300) if number not in PRIMES]
        self.assertIn(9, numbers)
        for prime in [*numbers, *ANY_VALUES, "7", (7,), [7]]:
            with self.assertRaises(InvalidNumber) as caught:
                Net(prime, (((1,),),), ("line",))
            self.assertIs(caught.exception.number, prime)

    def test_lists_that_are_changed_afterwards(self):
        weights = [[[1, 2], [3, 4]], [[5, 6], [0, 1]]]
        kinds = ["line", "square"]
        net = Net(7, weights, kinds)
        self.assertEqual(weights, [[[1, 2], [3, 4]], [[5, 6], [0, 1]]])
        spoil(weights)
        spoil(kinds)
        self.assertEqual(net.weights, (((1, 2), (3, 4)), ((5, 6), (0, 1))))
        self.assertEqual(net.kinds, ("line", "square"))
        self.assertTrue(all_tuples(net.weights) and all_tuples(net.kinds))

    def test_names_of_the_arguments(self):
        net = Net(kinds=("line",), weights=(((2,),),), prime=5)
        self.assertEqual(layer_forward(vector=(3,), layer=0, net=net), (1,))
        self.assertEqual(layer_back(slopes=(2,), vector=(3,), layer=0, net=net), ((4,), ((1,),)))
        self.assertEqual(forward(vector=(3,), net=net), (1,))
        self.assertEqual(portion_slopes(portion=(((3,), (0,)),), net=net), (((1,),),))
        self.assertEqual(changed(rate=1, slopes=(((1,),),), net=net).weights, (((1,),),))
        self.assertEqual(train(rate=1, batch=((((3,), (0,)),),), net=net).weights, (((1,),),))

    def test_equal_and_not(self):
        net = Net(7, (((1, 2), (3, 4)),), ("line",))
        same = Net(7, [[[1, 2], [3, 4]]], ["line"])
        others = [Net(11, net.weights, net.kinds), Net(7, (((1, 2), (3, 5)),), net.kinds),
                  Net(7, net.weights, ("square",)), Net(7, net.weights * 2, ("line", "line"))]
        self.assertIs(net == same, True)
        self.assertIs(net != same, False)
        for other in [*others, *ANY_VALUES, (7, net.weights, net.kinds), net.weights, ANY, object()]:
            self.assertIs(net == other, False)
            self.assertIs(net != other, True)


class Layers(unittest.TestCase):
    def test_line_by_hand(self):
        net = Net(11, (((1, 2), (3, 4)),), ("line",))
        self.assertEqual(layer_forward(net, 0, (5, 6)), (17 % 11, 39 % 11))
        self.assertEqual(layer_back(net, 0, (5, 6), (7, 8)),
                         (((7 + 24) % 11, (14 + 32) % 11), ((35 % 11, 42 % 11), (40 % 11, 48 % 11))))

    def test_square_by_hand(self):
        net = Net(11, (((1, 2), (3, 4)),), ("square",))
        self.assertEqual(layer_forward(net, 0, (5, 6)), (36 % 11, 36 % 11))
        # y = (6, 6), so g = (2 * 6 * 7, 2 * 6 * 8) = (84, 96) = (7, 8)
        self.assertEqual(layer_back(net, 0, (5, 6), (7, 8)),
                         (((7 + 24) % 11, (14 + 32) % 11), ((35 % 11, 42 % 11), (40 % 11, 48 % 11))))
        self.assertEqual(layer_back(net, 0, (5, 6), (1, 0)), ((12 % 11, 24 % 11), ((60 % 11, 72 % 11), (0, 0))))

    def test_the_prime_2(self):
        line = Net(2, (((1, 1), (0, 1)),), ("line",))
        square = Net(2, (((1, 1), (0, 1)),), ("square",))
        for vector in product(range(2), repeat=2):
            self.assertEqual(layer_forward(line, 0, vector), (sum(vector) % 2, vector[1]))
            self.assertEqual(layer_forward(square, 0, vector), (sum(vector) % 2, vector[1]))
            for slopes in product(range(2), repeat=2):
                self.assertEqual(layer_back(square, 0, vector, slopes), ((0, 0), ((0, 0), (0, 0))))
                weights = tuple(tuple(g * x for x in vector) for g in slopes)
                self.assertEqual(layer_back(line, 0, vector, slopes), ((slopes[0], sum(slopes) % 2), weights))

    def test_width_1_in_full(self):
        for weight, x, slope in product(range(5), repeat=3):
            line = Net(5, (((weight,),),), ("line",))
            square = Net(5, (((weight,),),), ("square",))
            self.assertEqual(layer_forward(line, 0, (x,)), (weight * x % 5,))
            self.assertEqual(layer_forward(square, 0, (x,)), (weight * x * weight * x % 5,))
            self.assertEqual(layer_back(line, 0, (x,), (slope,)), ((slope * weight % 5,), ((slope * x % 5,),)))
            g = 2 * weight * x * slope
            self.assertEqual(layer_back(square, 0, (x,), (slope,)), ((g * weight % 5,), ((g * x % 5,),)))

    def test_forward_goes_through_all_layers(self):
        rng = dice(2)
        for _ in range(100):
            net = some_net(rng)
            vector = some_vector(rng, net.prime, net.width)
            came = wanted = vector
            for layer in range(len(net)):
                came = layer_forward(net, layer, came)
                wanted = [sum(w * x for w, x in zip(row, wanted)) for row in net.weights[layer]]
                if net.kinds[layer] == "square":
                    wanted = [y ** 2 for y in wanted]
                wanted = tuple(y % net.prime for y in wanted)
                self.assertEqual(came, wanted)
            self.assertEqual(forward(net, vector), wanted)

    def test_forward_is_the_last_layers(self):
        net = Net(7, (((2,),), ((3,),)), ("line", "square"))
        self.assertEqual([forward(net, (x,)) for x in range(7)], [((6 * x) ** 2 % 7,) for x in range(7)])

    def test_lists_and_tuples(self):
        net = Net(7, (((2, 1), (1, 5)),), ("square",))
        vector, slopes = [3, 4], [5, 6]
        self.assertEqual(layer_forward(net, 0, vector), layer_forward(net, 0, (3, 4)))
        self.assertEqual(layer_back(net, 0, vector, slopes), layer_back(net, 0, (3, 4), (5, 6)))
        self.assertEqual(forward(net, vector), forward(net, (3, 4)))
        self.assertEqual((vector, slopes), ([3, 4], [5, 6]))
        for kind in ("line", "square"):
            net = Net(7, net.weights, (kind,))
            self.assertTrue(all_tuples(layer_forward(net, 0, vector)))
            self.assertTrue(all_tuples(layer_back(net, 0, vector, slopes)))
            self.assertTrue(all_tuples(forward(net, vector)))


class Slopes(unittest.TestCase):
    def test_each_slope_is_the_coefficient_of_t(self):
        rng = dice(3)
        for _ in range(120):
            net = some_net(rng, rng.choice((2, 3, 5, 7, 97)), rng.randint(1, 4), rng.randint(1, 2))
            portion = some_portion(rng, net)
            slopes = portion_slopes(net, portion)
            self.assertEqual(len(slopes), len(net))
            for layer, i, k in product(range(len(net)), range(net.width), range(net.width)):
                polynomial = loss_in_t(net, portion, layer, i, k) + [0]
                self.assertEqual(slopes[layer][i][k], polynomial[1])

    def test_width_3_and_six_layers(self):
        rng = dice(4)
        net = some_net(rng, 13, 6, 3)
        portion = some_portion(rng, net)
        slopes = portion_slopes(net, portion)
        for layer, i, k in ((0, 2, 1), (3, 0, 0), (5, 1, 2)):
            self.assertEqual(slopes[layer][i][k], (loss_in_t(net, portion, layer, i, k) + [0])[1])

    def test_changed_by_hand(self):
        net = Net(7, (((1, 2), (3, 4)), ((0, 6), (5, 1))), ("line", "square"))
        other = changed(net, (((1, 0), (2, 3)), ((6, 6), (0, 1))), 10)
        self.assertEqual(other.weights, (((-9 % 7, 2), (-17 % 7, -26 % 7)), ((-60 % 7, -54 % 7), (5, -9 % 7))))
        self.assertEqual((other.prime, other.kinds), (7, ("line", "square")))
        self.assertEqual(net.weights, (((1, 2), (3, 4)), ((0, 6), (5, 1))))
        self.assertEqual(changed(net, other.weights, 0), net)
        self.assertEqual(changed(net, other.weights, 7 * 100), net)

    def test_train_is_the_sum_of_all_portions(self):
        rng = dice(5)
        for _ in range(60):
            net = some_net(rng)
            batch = some_batch(rng, net)
            rate = rng.randint(0, 1000)
            weights = [[list(row) for row in matrix] for matrix in net.weights]
            for portion in batch:
                for example in portion:
                    slopes = portion_slopes(net, (example,))
                    for layer, i, k in product(range(len(net)), range(net.width), range(net.width)):
                        weights[layer][i][k] = (weights[layer][i][k] - rate * slopes[layer][i][k]) % net.prime
            before = (net.prime, net.weights, net.kinds)
            self.assertEqual(train(net, batch, rate), Net(net.prime, weights, net.kinds))
            self.assertEqual((net.prime, net.weights, net.kinds), before)

    def test_lists_and_what_is_given_back(self):
        rng = dice(6)
        net = some_net(rng, 7, 3, 2)
        batch = some_batch(rng, net, 3)
        lists = as_lists(batch)
        self.assertEqual(train(net, lists, 3), train(net, batch, 3))
        self.assertEqual(portion_slopes(net, lists[0]), portion_slopes(net, batch[0]))
        slopes = portion_slopes(net, batch[0])
        self.assertEqual(changed(net, as_lists(slopes), 3), changed(net, slopes, 3))
        self.assertEqual(lists, as_lists(batch))
        self.assertTrue(all_tuples(slopes))
        self.assertTrue(all_tuples(train(net, lists, 3).weights))
        trained = changed(net, as_lists(slopes), 3)
        self.assertTrue(all_tuples(trained.weights))


if __name__ == "__main__":
    unittest.main()

