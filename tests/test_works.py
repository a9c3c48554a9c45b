"""[16], [17]: stages at work."""

import unittest

from samples import all_tuples, as_lists, dice, some_net, some_portion, some_vector, spoil
from stagesfull.nets import Net, changed, layer_back, layer_forward, portion_slopes
from stagesfull.works import Work


def part(net, layers):
    """The net of these layers alone."""
    return Net(net.prime, [net.weights[layer] for layer in layers], [net.kinds[layer] for layer in layers])


def plain_forward(net, vectors):
    """What comes out of a net for each vector, layer by layer."""
    for layer in range(len(net)):
        vectors = tuple(layer_forward(net, layer, vector) for vector in vectors)
    return vectors


def plain_back(net, vectors, slopes):
    """For each vector the slopes of what came in, and the sums of the slopes of the weights."""
    sums = [[[0] * net.width for _ in range(net.width)] for _ in range(len(net))]
    found = []
    for vector, slope in zip(vectors, slopes):
        came = [vector]
        for layer in range(len(net)):
            came.append(layer_forward(net, layer, came[-1]))
        for layer in reversed(range(len(net))):
            slope, matrix = layer_back(net, layer, came[layer], slope)
            for i in range(net.width):
                for k in range(net.width):
                    sums[layer][i][k] = (sums[layer][i][k] + matrix[i][k]) % net.prime
        found.append(slope)
    return tuple(found), tuple(tuple(tuple(row) for row in matrix) for matrix in sums)


def zeros(net):
    return tuple(tuple((0,) * net.width for _ in range(net.width)) for _ in range(len(net)))


def plus(prime, ones, others):
    return tuple(tuple(tuple((a + b) % prime for a, b in zip(row, beside)) for row, beside in zip(one, other))
                 for one, other in zip(ones, others))


def some_layers(rng, net):
    first = rng.randrange(len(net))
    return tuple(range(first, rng.randint(first + 1, len(net))))


def some_vectors(rng, net):
    return tuple(some_vector(rng, net.prime, net.width) for _ in range(rng.randint(1, 3)))


class Works(unittest.TestCase):
    def setUp(self):
        self.net = Net(7, (((2,),), ((3,),), ((4,),)), ("line", "square", "line"))

    def test_a_new_work(self):
        for again in (False, True):
            work = Work(self.net, (1, 2), again)
            self.assertEqual(work.matrices(), (((3,),), ((4,),)))
            self.assertEqual(work.sums(), (((0,),), ((0,),)))
            self.assertEqual((work.kept(), work.layers_done, work.versions()), (0, 0, ()))
            for name in ("layers_done", "version", "rate"):
                self.assertIn(name, vars(work))

    def test_by_hand(self):
        for again in (False, True):
            work = Work(self.net, [0, 1], again)
            self.assertEqual(work.go_forward(0, ((1,), (2,))), ((36 % 7,), (144 % 7,)))
            self.assertEqual(work.kept(), 2 if again else 4)
            self.assertEqual(work.layers_done, 4)
            # Layer 1: y = 6 and 12, g = 2 * y * slope = 12 and 24 * 2; what came in was 2 and 4.
            self.assertEqual(work.go_back(0, ((1,), (2,))), ((12 * 3 * 2 % 7,), (48 * 3 * 2 % 7,)))
            self.assertEqual(work.sums(), ((((36 * 1 + 144 * 2) % 7,),), (((12 * 2 + 48 * 4) % 7,),)))
            self.assertEqual(work.kept(), 0)
            self.assertEqual(work.layers_done, 8 if again else 4)

    def test_names_of_the_arguments(self):
        work = Work(rate=2, own=True, again=True, layers=(2,), net=self.net)
        self.assertEqual(work.go_forward(vectors=((3,),), portion=4), ((5,),))
        self.assertEqual(work.go_back(slopes=((1,),), portion=4), ((4,),))
        self.assertEqual(work.matrices(), ((((4 - 2 * 3) % 7,),),))
        plain = Work(self.net, (2,), False)
        self.assertIsNone(plain.change(rate=3))

    def test_against_the_plain_way(self):
        rng = dice(1)
        for _ in range(150):
            net = some_net(rng)
            layers = some_layers(rng, net)
            own = part(net, layers)
            again = rng.random() < 0.5
            work = Work(net, rng.choice((layers, list(layers), range(layers[0], layers[-1] + 1))), again)
            ways, done, sums = {}, 0, zeros(own)
            portions = list(range(rng.randint(1, 5)))
            todo = [(way, portion) for portion in portions for way in "fb"]
            while todo:
                way, portion = rng.choice([one for one in todo if one[0] == "f" or ("f", one[1]) not in todo])
                todo.remove((way, portion))
                if way == "f":
                    ways[portion] = some_vectors(rng, net)
                    given = work.go_forward(portion, rng.choice((ways[portion], as_lists(ways[portion]))))
                    self.assertEqual(given, plain_forward(own, ways[portion]))
                    done += len(ways[portion]) * len(own)
                else:
                    slopes = tuple(some_vector(rng, net.prime, net.width) for _ in ways[portion])
                    given = work.go_back(portion, rng.choice((slopes, as_lists(slopes))))
                    wanted, more = plain_back(own, ways[portion], slopes)
                    self.assertEqual(given, wanted)
                    sums = plus(net.prime, sums, more)
                    done += len(ways[portion]) * len(own) if again else 0
                    del ways[portion]
                self.assertTrue(all_tuples(given))
                self.assertEqual(work.sums(), sums)
                self.assertEqual(work.matrices(), own.weights)
                self.assertEqual(work.layers_done, done)
                self.assertEqual(work.kept(), sum(map(len, ways.values())) * (1 if again else len(own)))
            rate = rng.randint(0, 1000)
            self.assertIsNone(work.change(rate))
            self.assertEqual(work.matrices(), changed(own, sums, rate).weights)
            self.assertEqual(work.sums(), zeros(own))
            self.assertTrue(all_tuples(work.matrices()) and all_tuples(work.sums()))
            self.assertEqual(net.weights[layers[0]:layers[-1] + 1], own.weights)

    def test_a_whole_net_finds_the_slopes_of_a_portion(self):
        rng = dice(2)
        for again in (False, True):
            net = some_net(rng, 11, 4, 2)
            portion = some_portion(rng, net)
            work = Work(net, range(4), again)
            outs = work.go_forward(0, [vector for vector, _ in portion])
            slopes = [[2 * (o - t) % 11 for o, t in zip(out, target)] for out, (_, target) in zip(outs, portion)]
            work.go_back(0, slopes)
            self.assertEqual(work.sums(), portion_slopes(net, portion))

    def test_two_batches(self):
        work = Work(self.net, (0,), False)
        work.go_forward(0, ((3,),))
        work.go_back(0, ((1,),))
        work.change(1)
        self.assertEqual(work.matrices(), ((((2 - 3) % 7,),),))
        self.assertEqual(work.go_forward(1, ((1,),)), ((6,),))
        self.assertEqual(work.go_back(1, ((2,),)), ((5,),))
        self.assertEqual(work.sums(), (((2,),),))
        work.change(3)
        self.assertEqual(work.matrices(), (((0,),),))

    def test_lists_that_are_changed_afterwards(self):
        for again in (False, True):
            layers, vectors, slopes = [0, 1], [[1], [2]], [[1], [2]]
            work = Work(self.net, layers, again)
            given = work.go_forward(0, vectors)
            self.assertEqual((layers, vectors), ([0, 1], [[1], [2]]))
            spoil(layers)
            spoil(vectors)
            same = Work(self.net, (0, 1), again)
            self.assertEqual(same.go_forward(0, ((1,), (2,))), given)
            self.assertEqual(work.go_back(0, slopes), same.go_back(0, ((1,), (2,))))
            self.assertEqual(slopes, [[1], [2]])
            spoil(slopes)
            self.assertEqual(work.sums(), same.sums())
            work.change(1)
            same.change(1)
            self.assertEqual(work.matrices(), same.matrices())

    def test_other_works_of_the_same_net_stay_as_they_are(self):
        one, other = Work(self.net, (0,), False), Work(self.net, (0,), False)
        one.go_forward(0, ((3,),))
        one.go_back(0, ((1,),))
        one.change(1)
        self.assertEqual((other.matrices(), other.sums(), other.kept()), ((((2,),),), (((0,),),), 0))
        self.assertEqual(self.net.weights, (((2,),), ((3,),), ((4,),)))

    def test_a_work_is_equal_to_nothing_of_another_kind(self):
        work = Work(self.net, (0,), False)
        for other in (self.net, None, 1, ()):
            self.assertIs(work == other, False)
            self.assertIs(work != other, True)


class OwnWorks(unittest.TestCase):
    def test_by_hand(self):
        net = Net(7, (((2,),),), ("line",))
        for again in (False, True):
            work = Work(net, (0,), again, True, 3)
            self.assertEqual((work.rate, work.version, work.versions()), (3, 0, ()))
            self.assertEqual(work.go_forward(1, ((4,),)), ((1,),))
            self.assertEqual(work.go_forward(0, ((5,),)), ((3,),))
            self.assertEqual(work.go_back(1, ((1,),)), ((2,),))
            self.assertEqual(work.matrices(), ((((2 - 3 * 4) % 7,),),))
            self.assertEqual((work.version, work.sums()), (1, (((0,),),)))
            # The way back of portion 0 uses the weight 2 of its way forward, but changes the 4.
            self.assertEqual(work.go_back(0, ((3,),)), ((6,),))
            self.assertEqual(work.matrices(), ((((4 - 3 * 15) % 7,),),))
            self.assertEqual(work.version, 2)
            self.assertEqual(work.go_forward(7, ((1,),)), ((1,),))
            self.assertEqual(work.versions(), ((0, 0), (1, 0), (7, 2)))
            self.assertEqual(work.layers_done, 5 if again else 3)
            self.assertEqual(work.kept(), 1)

    def test_without_a_rate_nothing_changes(self):
        work = Work(Net(7, (((2,),),), ("line",)), (0,), False, True)
        work.go_forward(0, ((4,),))
        work.go_back(0, ((1,),))
        self.assertEqual((work.rate, work.version, work.matrices()), (0, 1, (((2,),),)))

    def test_against_the_plain_way(self):
        rng = dice(3)
        for _ in range(150):
            net = some_net(rng)
            layers = some_layers(rng, net)
            weights = [part(net, layers)]
            again = rng.random() < 0.5
            rate = rng.randint(0, 1000)
            work = Work(net, layers, again, own=True, rate=rate)
            self.assertEqual(work.rate, rate)
            ways, used, done = {}, {}, 0
            portions = rng.sample(range(9), rng.randint(1, 5))
            todo = [(way, portion) for portion in portions for way in "fb"]
            while todo:
                way, portion = rng.choice([one for one in todo if one[0] == "f" or ("f", one[1]) not in todo])
                todo.remove((way, portion))
                if way == "f":
                    ways[portion] = some_vectors(rng, net)
                    used[portion] = len(weights) - 1
                    self.assertEqual(work.go_forward(portion, ways[portion]),
                                     plain_forward(weights[-1], ways[portion]))
                    done += len(ways[portion]) * len(layers)
                else:
                    slopes = tuple(some_vector(rng, net.prime, net.width) for _ in ways[portion])
                    wanted, more = plain_back(weights[used[portion]], ways[portion], slopes)
                    self.assertEqual(work.go_back(portion, slopes), wanted)
                    weights.append(changed(weights[-1], more, rate))
                    done += len(ways[portion]) * len(layers) if again else 0
                    del ways[portion]
                self.assertEqual(work.sums(), zeros(weights[0]))
                self.assertEqual(work.matrices(), weights[-1].weights)
                self.assertEqual(work.version, len(weights) - 1)
                self.assertEqual(work.versions(), tuple(sorted(used.items())))
                self.assertTrue(all_tuples(work.versions()))
                self.assertEqual(work.layers_done, done)
                self.assertEqual(work.kept(), sum(map(len, ways.values())) * (1 if again else len(layers)))


class Stands(unittest.TestCase):
    def test_back_to_a_stand(self):
        rng = dice(4)
        for own in (False, True):
            for again in (False, True):
                net = some_net(rng, 13, 3, 2)
                work = Work(net, (1, 2), again, own, 5)
                first, second = some_vectors(rng, net), some_vectors(rng, net)
                work.go_forward(0, first)
                work.go_forward(1, second)
                work.go_back(1, second)
                stand = work.stand()
                self.assertTrue(all_tuples(stand))

                def told():
                    return (work.sums(), work.kept(), work.matrices(), work.versions(), work.layers_done, work.version)

                there = told()
                given = work.go_back(0, first)
                work.go_forward(2, first)
                after = told()
                work.go_back_to(stand)
                self.assertEqual(told(), there)
                self.assertEqual(work.go_back(0, first), given)
                work.go_forward(2, first)
                self.assertEqual(told(), after)


if __name__ == "__main__":
    unittest.main()
