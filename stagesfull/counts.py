"""All lawful schedules of few deeds, ascending by rows: how many there are, and which one is where."""

from stagesfull.checks import is_between
from stagesfull.errors import InvalidNumber, TooMany
from stagesfull.schedules import Schedule, check_counts, needs_of


class Orders:
    """All orders in which one machine can do its deeds, ascending.

    head has the rows of the machines ahead of it, which are done as they stand.
    """

    def __init__(self, machines, stages, portions, head):
        self._deeds = tuple([(way, portion, stage) for way in ("b", "f") for portion in range(portions)
                             for stage in range(len(head), stages, machines)])
        self._aheads = {deed: _deeds_ahead(stages, head, deed) for deed in self._deeds}
        # For the deeds that are left in how many orders they can be done.
        self._known = {(): 1}

    def _firsts(self, left):
        """Those of the deeds that are left that can come next, ascending."""
        return [deed for deed in left if not any([other in left for other in self._aheads[deed]])]

    def _many(self, left):
        """In how many orders the deeds that are left can be done."""
        if left not in self._known:
            self._known[left] = sum([self._many(_without(left, deed)) for deed in self._firsts(left)])
        return self._known[left]

    def how_many(self):
        """How many orders there are."""
        return self._many(self._deeds)

    def number_of_order(self, order):
        """How many orders stand ahead of this one."""
        left = self._deeds
        number = 0
        for deed in order:
            lower = [other for other in self._firsts(left) if other < deed]
            number += sum([self._many(_without(left, other)) for other in lower])
            left = _without(left, deed)
        return number

    def order_of_number(self, number):
        """The order ahead of which so many stand."""
        left = self._deeds
        order = []
        while len(left) > 0:
            firsts = self._firsts(left)
            many = self._many(_without(left, firsts[0]))
            while number >= many:
                number -= many
                del firsts[0]
                many = self._many(_without(left, firsts[0]))
            order.append(firsts[0])
            left = _without(left, firsts[0])
        return tuple(order)


def _without(deeds, deed):
    return tuple([other for other in deeds if other != deed])


def _deeds_ahead(stages, head, deed):
    """All deeds that come ahead of this one if the rows of head are done as they stand."""
    found = []
    new = [deed]
    while len(new) > 0:
        one = new.pop()
        for other in needs_of(stages, one) + _ahead_in_row(head, one):
            if other not in found:
                found.append(other)
                new.append(other)
    return tuple(found)


def _ahead_in_row(head, deed):
    for row in head:
        if deed in row:
            return row[:row.index(deed)]
    return ()


def _parts(machines, stages, portions):
    """Pairs of rows of all machines but the last one and the Orders of the last one, ascending.

    Only the last machine's orders are many: they are counted without being written out.
    """
    heads = [()]
    for _ in range(machines - 1):
        longer = []
        for head in heads:
            orders = Orders(machines, stages, portions, head)
            longer.extend([head + (orders.order_of_number(number),) for number in range(orders.how_many())])
        heads = longer
    return [(head, Orders(machines, stages, portions, head)) for head in heads]


def check_few(machines, stages, portions):
    """Raise InvalidNumber as Schedule does, or TooMany if the schedules are too many to look through."""
    check_counts(machines, stages, portions)
    if stages * portions > 4:
        raise TooMany(stages * portions)


def _how_many(parts):
    return sum([orders.how_many() for head, orders in parts])


def count_schedules(machines, stages, portions):
    """How many lawful schedules there are."""
    check_few(machines, stages, portions)
    return _how_many(_parts(machines, stages, portions))


def schedule_of_number(machines, stages, portions, number):
    """The lawful schedule ahead of which so many stand."""
    check_few(machines, stages, portions)
    parts = _parts(machines, stages, portions)
    if not is_between(number, 0, _how_many(parts) - 1):
        raise InvalidNumber(number)
    place = 0
    while number >= _how_many(parts[:place + 1]):
        place += 1
    head, orders = parts[place]
    row = orders.order_of_number(number - _how_many(parts[:place]))
    return Schedule(machines, stages, portions, head + (row,))


def number_of_schedule(schedule):
    """How many lawful schedules stand ahead of this one."""
    check_few(schedule.machines, schedule.stages, schedule.portions)
    parts = _parts(schedule.machines, schedule.stages, schedule.portions)
    place = [head for head, orders in parts].index(schedule.rows[:-1])
    return _how_many(parts[:place]) + parts[place][1].number_of_order(schedule.rows[-1])
