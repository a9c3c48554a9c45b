"""Nets as text."""

from stagesfull.checks import is_short_number
from stagesfull.errors import InvalidText
from stagesfull.nets import Net, is_net_prime

MOST_WIDTH = 3
MOST_LAYERS = 6


def write_net(net):
    """A line with the prime and the width, then a line for each layer."""
    lines = [f"net {net.prime} {net.width}"]
    for kind, matrix in zip(net.kinds, net.weights):
        lines.append(" ".join([kind] + [str(number) for row in matrix for number in row]))
    return "".join([line + "\n" for line in lines])


def read_net(text):
    """The net that the text tells."""
    if not isinstance(text, str):
        raise InvalidText(text, 0)
    lines = text.split("\n")
    head = _head_of(lines[0])
    if head is None:
        raise InvalidText(text, 0)
    prime, width = head
    layers = []
    for line in lines[1:-1]:
        layer = _layer_of(line, prime, width)
        if layer is None or len(layers) == MOST_LAYERS:
            raise InvalidText(text, len(layers) + 1)
        layers.append(layer)
    if lines[-1] != "" or len(layers) == 0:
        raise InvalidText(text, len(lines) - 1)
    return Net(prime, [matrix for kind, matrix in layers], [kind for kind, matrix in layers])


def _head_of(line):
    """The prime and the width that the first line tells, or None."""
    words = line.split(" ")
    if len(words) != 3 or words[0] != "net":
        return None
    if not is_short_number(words[1]) or not is_short_number(words[2]):
        return None
    prime = int(words[1])
    width = int(words[2])
    if not is_net_prime(prime) or not 1 <= width <= MOST_WIDTH:
        return None
    return prime, width


def _layer_of(line, prime, width):
    """The kind and the matrix that the line tells, or None."""
    words = line.split(" ")
    if words[0] not in ("line", "square") or len(words) != 1 + width * width:
        return None
    if not all([is_short_number(word) and int(word) < prime for word in words[1:]]):
        return None
    numbers = [int(word) for word in words[1:]]
    return words[0], [numbers[at:at + width] for at in range(0, width * width, width)]
