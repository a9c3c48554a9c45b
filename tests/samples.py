"""Values that several tests use: values of any kind, nets, batches, cuts and schedules."""

import random

from stagesfull.nets import Net, layer_back, layer_forward
from stagesfull.rules import fill_and_drain, one_and_one
from stagesfull.schedules import Schedule, some_order

PRIMES = (2, 3, 5, 7, 11, 13, 17, 19, 23, 29, 31, 37, 41, 43, 47, 53, 59, 61, 67, 71, 73, 79, 83, 89, 97)


def nested(value, times):
    for turn in range(times):
        value = (value,) if turn % 2 else [value]
    return value


# What an argument for which an error is described may be, besides the numbers from 0 to 99.
ANY_VALUES = (
    None, True, False, -1, -2, -100, 100, 101, 10 ** 399, -10 ** 399 + 1,
    "", "1", "f", "f0.1", "line", "a\nb", (), [], (1,), [1], (True,), ["f", 0, 0], ("f", 0, 0),
    (("f", 0, 0), ("b", 0, 0)), [[["f", 0, 0], ["b", 0, 0]]], (None, True, 3, "x", [1, (2,)]),
    nested(1, 10), nested("", 9), [1] * 199, tuple(range(199)), [[]], ((),), [None], [[None]], [[[]]],
)


def any_values_but(*fitting):
    """ANY_VALUES without those that are equal to one of fitting and of the same type."""
    return [value for value in ANY_VALUES
            if not any(type(value) is type(one) and value == one for one in fitting)]


def as_lists(value):
    """The same with lists in place of tuples."""
    if isinstance(value, (tuple, list)):
        return [as_lists(item) for item in value]
    return value


def spoil(value):
    """Change a list, and all lists in it, so that nothing of it is as it was."""
    if isinstance(value, list):
        for item in value:
            spoil(item)
        value.append("spoiled")
        value[0] = "spoiled"


def all_tuples(value):
    """Whether a value consists of integers, strings, None, bools and tuples of such only."""
    if isinstance(value, tuple):
        return all(all_tuples(item) for item in value)
    return value is None or isinstance(value, (int, str))


def some_vector(rng, prime, width):
    return tuple(rng.randrange(prime) for _ in range(width))


def some_matrix(rng, prime, width):
    return tuple(some_vector(rng, prime, width) for _ in range(width))


def some_net(rng, prime=None, layers=None, width=None):
    prime = rng.choice(PRIMES) if prime is None else prime
    layers = rng.randint(1, 6) if layers is None else layers
    width = rng.randint(1, 3) if width is None else width
    return Net(prime, tuple(some_matrix(rng, prime, width) for _ in range(layers)),
               tuple(rng.choice(("line", "square")) for _ in range(layers)))


def some_portion(rng, net):
    return tuple((some_vector(rng, net.prime, net.width), some_vector(rng, net.prime, net.width))
                 for _ in range(rng.randint(1, 3)))


def some_batch(rng, net, portions=None):
    portions = rng.randint(1, 6) if portions is None else portions
    return tuple(some_portion(rng, net) for _ in range(portions))


def all_cuts(layers, stages):
    """All cuts of so many layers into so many stages, ascending."""
    if stages == 0:
        return [()] if layers == 0 else []
    return [(many,) + rest for many in range(1, layers + 1) for rest in all_cuts(layers - many, stages - 1)]


def plain_needs(stages, deed):
    """What a deed needs, straight from the document's words."""
    way, portion, stage = deed
    found = []
    if way == "f" and stage != 0:
        found.append(("f", portion, stage - 1))
    if way == "b":
        found.append(("f", portion, stage))
        if stage != stages - 1:
            found.append(("b", portion, stage + 1))
    return tuple(sorted(found))


def all_deeds(stages, portions):
    return [(way, portion, stage) for way in "fb" for portion in range(portions) for stage in range(stages)]


def some_rows(rng, machines, stages, portions):
    """Rows that are lawful because they come out of one order of all deeds."""
    left = all_deeds(stages, portions)
    done = set()
    rows = [[] for _ in range(machines)]
    while left:
        ready = [deed for deed in left if all(one in done for one in plain_needs(stages, deed))]
        deed = rng.choice(ready)
        left.remove(deed)
        done.add(deed)
        rows[deed[2] % machines].append(deed)
    return tuple(tuple(row) for row in rows)


def some_schedule(rng, machines=None, stages=None, portions=None):
    machines = rng.randint(1, 4) if machines is None else machines
    stages = machines * rng.randint(1, 3) if stages is None else stages
    portions = rng.randint(1, 4) if portions is None else portions
    return Schedule(machines, stages, portions, some_rows(rng, machines, stages, portions))


def timed_schedules(rng, many, portions):
    """Schedules of up to so many portions with times forth and back, each without a wait and with one."""
    for _ in range(many):
        schedule = some_schedule(rng, None, None, rng.randint(1, portions))
        most = rng.choice((1, 2, 5, 100))
        forth = [rng.randint(1, most) for _ in range(schedule.stages)]
        back = [rng.randint(1, most) for _ in range(schedule.stages)]
        for wait in (0, rng.randint(1, 20)):
            yield schedule, forth, back, wait


def time_of(deed, forth, back):
    return forth[deed[2]] if deed[0] == "f" else back[deed[2]]


def lets_of(schedule, deed):
    """What lets a deed begin: the one ahead in its row, then what it needs, ascending."""
    row = schedule.rows[deed[2] % schedule.machines]
    place = row.index(deed)
    return [*row[:place][-1:], *plain_needs(schedule.stages, deed)]


def wait_between(schedule, one, other, wait):
    return 0 if one[2] % schedule.machines == other[2] % schedule.machines else wait


def plain_begins(schedule, forth, back, wait):
    """When each deed begins: moved up until nothing changes any more."""
    begins = {deed: 0 for row in schedule.rows for deed in row}
    moved = True
    while moved:
        moved = False
        for deed in begins:
            for one in lets_of(schedule, deed):
                free = begins[one] + time_of(one, forth, back) + wait_between(schedule, one, deed, wait)
                if free > begins[deed]:
                    begins[deed] = free
                    moved = True
    return begins


def late_weights(net, cut, batch, schedule, rate):
    """The plain way of [17]: one hand does all deeds in order and keeps all versions of the weights."""
    layers = []
    for many in cut:
        layers.append(range(sum(map(len, layers)), sum(map(len, layers)) + many))
    versions = [[net] for _ in cut]
    used, given = {}, {}
    for way, k, s in some_order(schedule):
        portion = batch[k]
        if way == "f":
            used[k, s] = versions[s][-1]
            vectors = given["f", k, s - 1] if s else [vector for vector, _ in portion]
            for layer in layers[s]:
                vectors = [layer_forward(used[k, s], layer, vector) for vector in vectors]
            given["f", k, s] = vectors
            continue
        if s == len(cut) - 1:
            slopes = [[2 * (o - t) % net.prime for o, t in zip(out, target)]
                      for out, (_, target) in zip(given["f", k, s], portion)]
        else:
            slopes = given["b", k, s + 1]
        vectors = given["f", k, s - 1] if s else [vector for vector, _ in portion]
        weights = [[list(row) for row in matrix] for matrix in versions[s][-1].weights]
        given["b", k, s] = []
        for vector, slope in zip(vectors, slopes):
            came = [vector]
            for layer in layers[s]:
                came.append(layer_forward(used[k, s], layer, came[-1]))
            for place, layer in reversed(list(enumerate(layers[s]))):
                slope, matrix = layer_back(used[k, s], layer, came[place], slope)
                for i, row in enumerate(matrix):
                    for c, number in enumerate(row):
                        weights[layer][i][c] = (weights[layer][i][c] - rate * number) % net.prime
            given["b", k, s].append(slope)
        versions[s].append(Net(net.prime, weights, net.kinds))
    return tuple(versions[s][-1].weights[layer] for s, row in enumerate(layers) for layer in row)


def some_case(rng):
    """A net, a cut, a batch, and a schedule with at most 6 stages that fit."""
    machines = rng.randint(1, 4)
    stages = machines * rng.randint(1, 6 // machines)
    net = some_net(rng, None, rng.randint(stages, 6))
    cut = rng.choice(all_cuts(len(net), stages))
    portions = rng.randint(1, 6)
    batch = some_batch(rng, net, portions)
    told = [some_schedule(rng, machines, stages, portions), fill_and_drain(machines, stages, portions)]
    if stages == machines:
        told.append(one_and_one(machines, portions, rng.randint(1, machines)))
    return net, cut, batch, rng.choice(told)


def all_lawful_rows(machines, stages, portions):
    """The rows of all lawful schedules, ascending, out of all orders of the deeds."""
    found = set()
    orders = [()]
    for _ in range(2 * stages * portions):
        orders = [order + (deed,) for order in orders for deed in all_deeds(stages, portions)
                  if deed not in order and all(one in order for one in plain_needs(stages, deed))]
    for order in orders:
        found.add(tuple(tuple(deed for deed in order if deed[2] % machines == machine)
                        for machine in range(machines)))
    return sorted(found)


# All numbers of machines, stages and portions that count_schedules takes.
FEW = [(machines, stages, portions) for machines in range(1, 5) for stages in range(machines, 5, machines)
       for portions in range(1, 5) if stages * portions <= 4]


def plain_least(machines, stages, portions, under, forth, back):
    """The least time, by trying from moment to moment what each machine begins or whether it waits.

    A stand has for each portion how many of its deeds are done or begun, and how long the last of them
    still takes.
    """
    stand_of = [stage % machines for stage in (*range(stages), *reversed(range(stages)))]
    times = [forth] * stages + [back] * stages
    stands = {((0, 0),) * portions}
    moment = 0
    while True:
        if any(all(way == (2 * stages, 0) for way in stand) for stand in stands):
            return moment
        for machine in range(machines):
            begun = set()
            for stand in stands:
                if any(left > 0 and stand_of[done - 1] == machine for done, left in stand):
                    continue
                for place, (done, left) in enumerate(stand):
                    if left or done == 2 * stages or stand_of[done] != machine:
                        continue
                    on_way = sum(way != (0, 0) and way != (2 * stages, 0) for way in stand)
                    if done == 0 and on_way == under:
                        continue
                    begun.add(tuple(sorted(stand[:place] + ((done + 1, times[done]),) + stand[place + 1:])))
            stands |= begun
        stands = {tuple(sorted((done, max(0, left - 1)) for done, left in stand)) for stand in stands}
        moment += 1


def dice(number):
    """Chances that are the same in every run of the tests."""
    return random.Random(number)
