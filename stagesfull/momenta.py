"""Training with a push that goes on from change to change."""

from stagesfull.nets import batch_slopes, changed, no_slopes


def zeros(net):
    """For each layer a matrix of zeros."""
    return no_slopes(net)


def pushed(net, push, slopes, rate, friction, decay):
    """The net and the push after one change by the push that the slopes give."""
    other = []
    for old, matrix, weights in zip(push, slopes, net.weights):
        rows = []
        for before, beside, numbers in zip(old, matrix, weights):
            rows.append(_pushed_row(net.prime, before, beside, numbers, friction, decay))
        other.append(tuple(rows))
    return changed(net, other, rate), tuple(other)


def _pushed_row(prime, before, slopes, weights, friction, decay):
    return tuple([(friction * old + slope + decay * w) % prime for old, slope, w in zip(before, slopes, weights)])


def train_pushed(net, batches, rate, friction, decay):
    """The net and the push after one change for each batch, beginning with a push of zeros."""
    pair = (net, zeros(net))
    for batch in batches:
        trained, push = pair
        pair = pushed(trained, push, batch_slopes(trained, batch), rate, friction, decay)
    return pair
