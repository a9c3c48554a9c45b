"""Schedules: which machine does what after what."""

from stagesfull.checks import as_tuples, is_between, is_sequence
from stagesfull.errors import InvalidNumber, InvalidRows


class Schedule:
    """For each machine the row of its deeds; stage s stands on machine s % machines."""

    def __init__(self, machines, stages, portions, rows):
        check_counts(machines, stages, portions)
        if not _are_deed_rows(rows):
            raise InvalidRows(rows)
        plain = as_tuples(rows)
        if not _has_all_deeds(machines, stages, portions, plain) or not _is_lawful(stages, plain):
            raise InvalidRows(rows)
        self.machines = machines
        self.stages = stages
        self.portions = portions
        self.rows = plain

    def __eq__(self, other):
        return (isinstance(other, Schedule) and self.machines == other.machines
                and self.stages == other.stages and self.portions == other.portions
                and self.rows == other.rows)


def check_counts(machines, stages, portions):
    """Raise InvalidNumber with the first one that no schedule has."""
    if not is_between(machines, 1, 4):
        raise InvalidNumber(machines)
    if not is_between(stages, machines, 12) or stages % machines != 0:
        raise InvalidNumber(stages)
    if not is_between(portions, 1, 8):
        raise InvalidNumber(portions)


def _are_deed_rows(rows):
    """Whether rows is a sequence of sequences of sequences."""
    if not is_sequence(rows) or not all([is_sequence(row) for row in rows]):
        return False
    return all([is_sequence(deed) for row in rows for deed in row])


def _has_all_deeds(machines, stages, portions, rows):
    """Whether each deed stands once, in the row of its machine, and nothing else."""
    if len(rows) != machines:
        return False
    seen = {}
    for machine, row in enumerate(rows):
        for deed in row:
            if not _is_deed(stages, portions, deed) or deed[2] % machines != machine or deed in seen:
                return False
            seen[deed] = True
    return len(seen) == 2 * portions * stages


def _is_deed(stages, portions, deed):
    """Whether a tuple of any values is a deed."""
    return (len(deed) == 3 and deed[0] in ("f", "b")
            and is_between(deed[1], 0, portions - 1) and is_between(deed[2], 0, stages - 1))


def _is_lawful(stages, rows):
    return len(_order_of(stages, rows)) == sum([len(row) for row in rows])


def needs_of(stages, deed):
    """The deeds that the deed needs, ascending."""
    way, portion, stage = deed
    if way == "b":
        own = ("f", portion, stage)
        return (own,) if stage == stages - 1 else (("b", portion, stage + 1), own)
    return () if stage == 0 else (("f", portion, stage - 1),)


def _order_of(stages, rows):
    """The deeds in the order of some_order, as far as they can be done."""
    places = [0] * len(rows)
    done = {}
    order = []
    machine = _lowest_ready(stages, rows, places, done)
    while machine is not None:
        deed = rows[machine][places[machine]]
        order.append(deed)
        done[deed] = True
        places[machine] += 1
        machine = _lowest_ready(stages, rows, places, done)
    return tuple(order)


def _lowest_ready(stages, rows, places, done):
    """The lowest machine whose next deed can be done, or None."""
    for machine, row in enumerate(rows):
        place = places[machine]
        if place < len(row) and all([deed in done for deed in needs_of(stages, row[place])]):
            return machine
    return None


def needs(schedule, deed):
    """The deeds that the deed needs, ascending."""
    return needs_of(schedule.stages, deed)


def some_order(schedule):
    """One order of all deeds that the schedule allows: the lowest machine that can goes first."""
    return _order_of(schedule.stages, schedule.rows)


def kept_at_most(schedule):
    """For each stage the greatest number of portions that wait there for their way back."""
    rows = schedule.rows
    return tuple([_most_open(rows[stage % len(rows)], stage) for stage in range(schedule.stages)])


def under_way(schedule, order):
    """The greatest number of portions that have begun and are not yet back, in this order."""
    return _most_open(order, 0)


def _most_open(deeds, stage):
    """The greatest number of portions that are forward but not back through the stage."""
    most = 0
    portions = 0
    for way, _, place in deeds:
        if place == stage:
            portions += 1 if way == "f" else -1
            most = max(most, portions)
    return most
