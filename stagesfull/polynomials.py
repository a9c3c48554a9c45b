"""The loss as a number, and as a polynomial in what is added to one weight.

A polynomial is a tuple of its numbers modulo the prime, that of t ** 0 first, without zeros at the end.
"""

from stagesfull.nets import forward


def loss(net, batch):
    """The sum of the losses of all examples."""
    total = 0
    for portion in batch:
        for vector, target in portion:
            outs = forward(net, vector)
            total += sum([(out - wanted) * (out - wanted) for out, wanted in zip(outs, target)])
    return total % net.prime


def loss_polynomial(net, batch, layer, i, k):
    """The sum of the losses as a polynomial in t, if t is added to W[i][k] of this layer."""
    prime = net.prime
    weights = _weights_with_t(net, layer, i, k)
    total = ()
    for portion in batch:
        for vector, target in portion:
            outs = _outs(net, weights, vector)
            for out, wanted in zip(outs, target):
                less = _added(prime, out, (-wanted,))
                total = _added(prime, total, _product(prime, less, less))
    return total


def at(net, polynomial, number):
    """The value of the polynomial for t = number."""
    value = 0
    for one in polynomial[::-1]:
        value = (value * number + one) % net.prime
    return value


def _plain(prime, numbers):
    """The numbers modulo prime, without zeros at the end."""
    plain = [number % prime for number in numbers]
    while len(plain) > 0 and plain[-1] == 0:
        plain.pop()
    return tuple(plain)


def _added(prime, one, other):
    numbers = [0] * max(len(one), len(other))
    for polynomial in (one, other):
        for place, number in enumerate(polynomial):
            numbers[place] += number
    return _plain(prime, numbers)


def _product(prime, one, other):
    numbers = [0] * (len(one) + len(other))
    for place, number in enumerate(one):
        for beside, times in enumerate(other):
            numbers[place + beside] += number * times
    return _plain(prime, numbers)


def _weights_with_t(net, layer, i, k):
    """All matrices with polynomials in place of numbers, t being added to W[i][k] of this layer."""
    prime = net.prime
    weights = [[[_plain(prime, (w,)) for w in row] for row in matrix] for matrix in net.weights]
    weights[layer][i][k] = _plain(prime, (net.weights[layer][i][k], 1))
    return weights


def _outs(net, weights, vector):
    """What comes out of the last layer, polynomials in place of numbers."""
    way = [_plain(net.prime, (number,)) for number in vector]
    for matrix, kind in zip(weights, net.kinds):
        way = [_sum_of_products(net.prime, row, way) for row in matrix]
        if kind == "square":
            way = [_product(net.prime, one, one) for one in way]
    return way


def _sum_of_products(prime, ones, others):
    total = ()
    for one, other in zip(ones, others):
        total = _added(prime, total, _product(prime, one, other))
    return total
