"""Least times that are found by looking through all orders of the deeds."""

from stagesfull.counts import check_few
from stagesfull.errors import TooMany


def least_found(machines, stages, portions, under, forth, back):
    """The least time of any way of doing the deeds with at most under portions under way."""
    if stages * portions > 8:
        raise TooMany(stages * portions)
    steps = _steps(machines, (forth,) * stages, (back,) * stages)
    return _least(machines, steps, portions, under, 0)


def least_of_tables(machines, stages, portions, forth, back, *, wait=0):
    """The least span of all lawful schedules."""
    check_few(machines, stages, portions)
    return _least(machines, _steps(machines, forth, back), portions, portions, wait)


def _steps(machines, forth, back):
    """The machine and the time of each deed of a portion, in the only order in which it can do them."""
    there = [(stage % machines, time) for stage, time in enumerate(forth)]
    here = [(stage % machines, time) for stage, time in enumerate(back)]
    return there + here[::-1]


def _least(machines, steps, portions, under, wait):
    """The least end of all orders of the deeds, each of them done as early as it can be in its order.

    A stand has for each machine when it has ended its last deed, and for each portion how many deeds it
    has done and from when on it can do the next one. Portions are alike, so they stand ascending there,
    and all orders that lead to one stand are one.
    """
    stands = {((0,) * machines, ((0, 0),) * portions): True}
    for _ in range(portions * len(steps)):
        stands = {after: True for stand in stands for after in _stands_after(stand, steps, under, wait)}
    return min([max(ends) for ends, ways in stands])


def _stands_after(stand, steps, under, wait):
    """All stands that one more deed leads to."""
    ends, ways = stand
    # The first and the last deed of a portion are done by the same machine: a portion that has done its
    # last deed in this order has ended before another one begins.
    full = len([done for done, ready in ways if 0 < done < len(steps)]) == under
    afters = []
    for place, (done, ready) in enumerate(ways):
        if done == len(steps) or (done == 0 and full):
            continue
        machine, time = steps[done]
        end = max(ends[machine], ready) + time
        others = ways[:place] + ways[place + 1:]
        way = (done + 1, end + _wait_behind(steps, done, wait))
        afters.append((ends[:machine] + (end,) + ends[machine + 1:], tuple(sorted(others + (way,)))))
    return afters


def _wait_behind(steps, done, wait):
    """How long the letter takes to where the next deed is done, if there is one."""
    if done + 1 == len(steps) or steps[done][0] == steps[done + 1][0]:
        return 0
    return wait
