"""When the deeds of a schedule begin, how long all of it takes, and what it waits for."""

from stagesfull.schedules import needs, some_order


def starts(schedule, forth, back, *, wait=0):
    """For each machine the beginnings of the deeds of its row."""
    ends = _ends(schedule, forth, back, wait)
    return tuple([tuple([ends[deed] - time_of(deed, forth, back) for deed in row]) for row in schedule.rows])


def span(schedule, forth, back, *, wait=0):
    """The greatest end of a deed."""
    return max(_row_ends(schedule, _ends(schedule, forth, back, wait)))


def chain(schedule, forth, back, *, wait=0):
    """A row of deeds, each of which lets the next one begin, from the beginning to the span."""
    ends = _ends(schedule, forth, back, wait)
    row_ends = _row_ends(schedule, ends)
    aheads = _deeds_ahead(schedule)
    deeds = [schedule.rows[row_ends.index(max(row_ends))][-1]]
    letting = _letting(schedule, deeds[-1], aheads)
    while letting:
        # Of those that let it begin latest the first one: the deed ahead in the row stands first.
        frees = [_frees(schedule, one, deeds[-1], ends, wait) for one in letting]
        deeds.append(letting[frees.index(max(frees))])
        letting = _letting(schedule, deeds[-1], aheads)
    return tuple(deeds[::-1])


def idle(schedule, forth, back, *, wait=0):
    """For each machine the span less the times of its deeds."""
    most = span(schedule, forth, back, wait=wait)
    return tuple([most - sum([time_of(deed, forth, back) for deed in row]) for row in schedule.rows])


def time_of(deed, forth, back):
    """How long the deed takes."""
    way, _, stage = deed
    return forth[stage] if way == "f" else back[stage]


def _deeds_ahead(schedule):
    """For each deed the one directly ahead of it in its row, or None."""
    aheads = {}
    for row in schedule.rows:
        ahead = None
        for deed in row:
            aheads[deed] = ahead
            ahead = deed
    return aheads


def _letting(schedule, deed, aheads):
    """The deeds that let this one begin: the one ahead in its row, then those it needs, ascending."""
    ahead = aheads[deed]
    return (() if ahead is None else (ahead,)) + needs(schedule, deed)


def _frees(schedule, one, other, ends, wait):
    """From when on the one deed lets the other begin."""
    if (one[2] - other[2]) % schedule.machines == 0:
        return ends[one]
    return ends[one] + wait


def _ends(schedule, forth, back, wait):
    """When each deed ends, if each begins as early as it can."""
    aheads = _deeds_ahead(schedule)
    ends = {}
    for deed in some_order(schedule):
        frees = [_frees(schedule, one, deed, ends, wait) for one in _letting(schedule, deed, aheads)]
        ends[deed] = max([0] + frees) + time_of(deed, forth, back)
    return ends


def _row_ends(schedule, ends):
    """For each machine when its last deed ends."""
    return [ends[row[-1]] for row in schedule.rows]
