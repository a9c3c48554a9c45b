"""A run that falls and goes on from what it kept."""


def time_with_falls(work, every, cost, falls):
    """When all units are done."""
    return _outcome(work, every, cost, falls)[0]


def units_again(work, every, cost, falls):
    """How many units were lost."""
    return _outcome(work, every, cost, falls)[1]


def least_every(work, cost, falls):
    """The lowest number from 1 to work with the least time_with_falls."""
    times = [time_with_falls(work, every, cost, falls) for every in range(1, work + 1)]
    return times.index(min(times)) + 1


def _outcome(work, every, cost, falls):
    """When all units are done, and how many were lost until then."""
    moment = 0
    kept = 0
    lost = 0
    for fall in falls:
        if moment + _time_left(work - kept, every, cost) <= fall:
            break
        # Not all is done by then, so each turn of units and a keeping that has ended was a whole one.
        turns = (fall - moment) // (every + cost)
        kept += turns * every
        # What is behind the last turn was units first, then perhaps a part of a keeping.
        lost += min(every, (fall - moment) % (every + cost))
        moment = fall
    return moment + _time_left(work - kept, every, cost), lost


def _time_left(units, every, cost):
    """How long so many units take, with the keepings between them."""
    if units == 0:
        return 0
    return units + cost * ((units - 1) // every)
