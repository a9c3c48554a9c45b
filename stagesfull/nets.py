"""Nets of layers over the numbers modulo a prime, and their plain training."""

from stagesfull.checks import as_tuples, is_between
from stagesfull.errors import InvalidNumber


class Net:
    """Layers of one width, each with a matrix and a kind, modulo a prime."""

    def __init__(self, prime, weights, kinds):
        if not is_net_prime(prime):
            raise InvalidNumber(prime)
        self.prime = prime
        self.weights = as_tuples(weights)
        self.kinds = tuple(kinds)

    @property
    def width(self):
        """How many numbers go into each layer and come out of it."""
        return len(self.weights[0])

    def __len__(self):
        return len(self.weights)

    def __eq__(self, other):
        return (isinstance(other, Net) and self.prime == other.prime
                and self.weights == other.weights and self.kinds == other.kinds)


def is_net_prime(value):
    """Whether value is a prime from 2 to 97."""
    return is_between(value, 2, 97) and all([value % divisor != 0 for divisor in range(2, value)])


def part_of(net, layers):
    """The net of these layers alone."""
    return Net(net.prime, [net.weights[layer] for layer in layers], [net.kinds[layer] for layer in layers])


def _product(net, layer, vector):
    """y = W x of this layer."""
    return tuple([sum([w * x for w, x in zip(row, vector)]) % net.prime for row in net.weights[layer]])


def layer_forward(net, layer, vector):
    """What comes out of the layer if the vector comes in."""
    product = _product(net, layer, vector)
    if net.kinds[layer] == "square":
        return tuple([y * y % net.prime for y in product])
    return product


def _product_slopes(net, layer, vector, slopes):
    """The slopes of y = W x, given those of what comes out of the layer."""
    if net.kinds[layer] == "square":
        product = _product(net, layer, vector)
        return tuple([2 * y * slope % net.prime for y, slope in zip(product, slopes)])
    return tuple(slopes)


def layer_back(net, layer, vector, slopes):
    """The slopes of what came into the layer, and those of its weights."""
    prime = net.prime
    matrix = net.weights[layer]
    product_slopes = _product_slopes(net, layer, vector, slopes)
    came_in = []
    for k in range(net.width):
        came_in.append(sum([g * row[k] for g, row in zip(product_slopes, matrix)]) % prime)
    return tuple(came_in), tuple([tuple([g * x % prime for x in vector]) for g in product_slopes])


def way_forward(net, vector):
    """What comes into each layer, in order, and at the end what comes out of the last one."""
    way = [tuple(vector)]
    for layer in range(len(net)):
        way.append(layer_forward(net, layer, way[-1]))
    return tuple(way)


def way_back(net, came_in, slopes):
    """The slopes of what came into the net, and for each layer those of its weights.

    came_in has for each layer what came into it, slopes those of what came out of the net.
    """
    matrices = []
    for layer in reversed(range(len(net))):
        slopes, matrix = layer_back(net, layer, came_in[layer], slopes)
        matrices.append(matrix)
    return slopes, tuple(matrices[::-1])


def forward(net, vector):
    """What comes out of the last layer."""
    return way_forward(net, vector)[-1]


def loss_slopes(prime, out, target):
    """The slopes of what comes out, of one example's loss."""
    return tuple([2 * (number - wanted) % prime for number, wanted in zip(out, target)])


def no_slopes(net):
    """For each layer a matrix of zeros."""
    row = (0,) * net.width
    return ((row,) * net.width,) * len(net)


def added_slopes(net, ones, others):
    """For each layer the sum of two matrices."""
    return tuple([_added_matrix(net.prime, one, other) for one, other in zip(ones, others)])


def _added_matrix(prime, one, other):
    return tuple([tuple([(a + b) % prime for a, b in zip(row, beside)]) for row, beside in zip(one, other)])


def portion_slopes(net, portion):
    """For each layer the sums, over the examples, of the slopes of its weights."""
    sums = no_slopes(net)
    for vector, target in portion:
        way = way_forward(net, vector)
        back = way_back(net, way[:-1], loss_slopes(net.prime, way[-1], target))
        sums = added_slopes(net, sums, back[1])
    return sums


def batch_slopes(net, batch):
    """The sums of portion_slopes of all portions."""
    sums = no_slopes(net)
    for portion in batch:
        sums = added_slopes(net, sums, portion_slopes(net, portion))
    return sums


def _changed_matrix(prime, matrix, slopes, rate):
    return tuple([tuple([(w - rate * slope) % prime for w, slope in zip(row, beside)])
                  for row, beside in zip(matrix, slopes)])


def changed(net, slopes, rate):
    """The net with W - rate * slope for each weight."""
    weights = [_changed_matrix(net.prime, one, other, rate) for one, other in zip(net.weights, slopes)]
    return Net(net.prime, weights, net.kinds)


def train(net, batch, rate):
    """The net after plain training: one change by the sums of all portions."""
    return changed(net, batch_slopes(net, batch), rate)
