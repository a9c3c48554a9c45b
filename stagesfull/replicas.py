"""Replicas of a net that train together, the slopes of each going through a ring."""

from stagesfull.nets import batch_slopes, changed
from stagesfull.rings import Ring


def train_replicas(net, batches, rate):
    """The net of each replica, which has found the slopes of its batch and changed by those of all."""
    ring = Ring([flat(batch_slopes(net, batch)) for batch in batches])
    ring.calm()
    return tuple([changed(net, unflat(net, ring.row(replica)), rate) for replica in range(len(batches))])


def flat(slopes):
    """The numbers of the matrices of all layers in one row."""
    return tuple([number for matrix in slopes for row in matrix for number in row])


def unflat(net, row):
    """The matrices that the row has the numbers of, modulo the net's prime."""
    numbers = [number % net.prime for number in row]
    return _pieces(_pieces(numbers, net.width), net.width)


def _pieces(items, many):
    """The items in neighboring rows of so many."""
    return tuple([tuple(items[at:at + many]) for at in range(0, len(items), many)])
