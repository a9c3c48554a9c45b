"""[33]: replicas of a net that train together."""

import unittest
from unittest import mock

from samples import all_tuples, as_lists, dice, some_batch, some_net
from stagesfull.nets import Net, portion_slopes, train
from stagesfull.replicas import flat, train_replicas, unflat
from stagesfull.rings import Ring

NET = Net(7, (((1, 2), (3, 4)), ((0, 6), (5, 1))), ("line", "square"))


class FlatAndUnflat(unittest.TestCase):
    def test_flat_by_hand(self):
        slopes = (((1, 2), (3, 4)), ((5, 6), (0, 1)))
        self.assertEqual(flat(slopes), (1, 2, 3, 4, 5, 6, 0, 1))
        self.assertEqual(flat(slopes=as_lists(slopes)), (1, 2, 3, 4, 5, 6, 0, 1))
        self.assertEqual(flat((((9,),),)), (9,))
        self.assertEqual(flat([[[1, 2, 3], [4, 5, 6], [7, 8, 9]]]), tuple(range(1, 10)))
        # Numbers stay as they are.
        self.assertEqual(flat((((-3,),), ((1000,),))), (-3, 1000))

    def test_unflat_by_hand(self):
        wanted = (((1, 2), (3, 4)), ((5, 6), (0, 1)))
        for row in ((1, 2, 3, 4, 5, 6, 0, 1), [1, 2, 3, 4, 5, 6, 0, 1], (8, -5, 10, -3, 12, 13, 7, 7 * 10 ** 50 + 1)):
            self.assertEqual(unflat(NET, row), wanted)
        self.assertEqual(unflat(row=[-1, 97, 98], net=Net(97, [[[1]]] * 3, ["line"] * 3)), (((96,),), ((0,),), ((1,),)))
        self.assertEqual(unflat(Net(2, [[[0] * 3] * 3], ["line"]), range(9)), (((0, 1, 0), (1, 0, 1), (0, 1, 0)),))

    def test_there_and_back(self):
        rng = dice(1)
        for _ in range(150):
            net = some_net(rng)
            row = [rng.choice((rng.randint(-10 ** 20, 10 ** 20), rng.randint(-200, 200)))
                   for _ in range(len(net) * net.width ** 2)]
            before = list(row)
            slopes = unflat(net, row)
            self.assertEqual(row, before)
            self.assertTrue(all_tuples(slopes))
            self.assertEqual([len(matrix) for matrix in slopes], [net.width] * len(net))
            self.assertEqual(flat(slopes), tuple(number % net.prime for number in row))
            self.assertEqual(unflat(net, flat(slopes)), slopes)
            self.assertEqual(unflat(net, flat(net.weights)), net.weights)
            self.assertEqual(flat(as_lists(net.weights)), flat(net.weights))
            self.assertTrue(all_tuples(flat(net.weights)))


class Replicas(unittest.TestCase):
    def test_by_hand(self):
        net = Net(7, (((2,),), ((3,),)), ("line", "square"))
        one, other = ((((1,), (1,)),),), ((((2,), (0,)),),)
        # The document's example, each portion in a replica of its own.
        found = train_replicas(net, (one, other), 1)
        self.assertEqual([replica.weights for replica in found], [(((5,),), ((5,),))] * 2)
        self.assertIsInstance(found, tuple)
        self.assertEqual(net, Net(7, (((2,),), ((3,),)), ("line", "square")))

    def test_train_of_all_portions_together(self):
        rng = dice(2)
        for turn in range(120):
            net = some_net(rng)
            batches = [some_batch(rng, net) for _ in range(turn % 4 + 1)]
            rate = rng.randint(0, 1000)
            wanted = train(net, [portion for batch in batches for portion in batch], rate)
            for given in (batches, tuple(batches), as_lists(batches)):
                before = as_lists(given)
                found = train_replicas(rate=rate, batches=given, net=net)
                self.assertIsInstance(found, tuple)
                self.assertEqual(len(found), len(batches))
                for replica in found:
                    self.assertIsInstance(replica, Net)
                    self.assertEqual(replica, wanted)
                    self.assertTrue(all_tuples(replica.weights))
                self.assertEqual(as_lists(given), before)

    def test_one_batch_is_plain_training(self):
        rng = dice(3)
        for _ in range(40):
            net = some_net(rng)
            batch = some_batch(rng, net)
            self.assertEqual(train_replicas(net, (batch,), 5), (train(net, batch, 5),))

    def test_the_slopes_go_through_a_ring(self):
        rng = dice(4)
        for many in range(1, 5):
            net = some_net(rng, 11, 2, 2)
            batches = [some_batch(rng, net) for _ in range(many)]
            rings = []

            def noted(vectors):
                rings.append((vectors, Ring(vectors)))
                return rings[-1][1]

            with mock.patch("stagesfull.replicas.Ring", noted):
                train_replicas(net, batches, 3)
            (vectors, ring), = rings
            for vector, batch in zip(vectors, batches):
                sums = [0] * 8
                for portion in batch:
                    sums = [(a + b) % 11 for a, b in zip(sums, flat(portion_slopes(net, portion)))]
                self.assertEqual([number % 11 for number in vector], sums)
            self.assertIs(ring.is_done(), True)
            self.assertEqual(ring.numbers_said, 2 * (many - 1) * 8)


if __name__ == "__main__":
    unittest.main()
