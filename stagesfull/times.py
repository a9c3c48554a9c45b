"""When the deeds of a schedule begin, how long all of it takes, and what it waits for."""

from stagesfull.schedules import needs, some_order


def starts(schedule, forth, back, *, wait=0):
    """For each machine the beginnings of the deeds of its row."""
    lengths = deed_times(schedule, forth, back)
    ends = ends_of(schedule, lengths, wait)
    return tuple([tuple([ends[deed] - lengths[deed] for deed in row]) for row in schedule.rows])


def span(schedule, forth, back, *, wait=0):
    """The greatest end of a deed."""
    return max(ends_of(schedule, deed_times(schedule, forth, back), wait).values())


def chain(schedule, forth, back, *, wait=0):
    """A row of deeds, each of which lets the next one begin, from the beginning to the span."""
    ends = ends_of(schedule, deed_times(schedule, forth, back), wait)
    letting = letting_deeds(schedule)
    row_ends = [ends[row[-1]] for row in schedule.rows]
    deeds = [schedule.rows[row_ends.index(max(row_ends))][-1]]
    while letting[deeds[-1]]:
        ones = letting[deeds[-1]]
        # Of those that let it begin latest the first one: the deed ahead in the row stands first.
        frees = [ends[one] + letter_time(schedule, one, deeds[-1], wait) for one in ones]
        deeds.append(ones[frees.index(max(frees))])
    return tuple(deeds[::-1])


def idle(schedule, forth, back, *, wait=0):
    """For each machine the span less the times of its deeds."""
    most = span(schedule, forth, back, wait=wait)
    return tuple([most - sum([time_of(deed, forth, back) for deed in row]) for row in schedule.rows])


def time_of(deed, forth, back):
    """How long the deed takes."""
    way, _, stage = deed
    return forth[stage] if way == "f" else back[stage]


def deed_times(schedule, forth, back):
    """For each deed how long it takes."""
    return {deed: time_of(deed, forth, back) for row in schedule.rows for deed in row}


def letter_time(schedule, one, other, wait):
    """How long the other deed waits for a letter when the one has ended."""
    return 0 if (one[2] - other[2]) % schedule.machines == 0 else wait


def letting_deeds(schedule):
    """For each deed, in one order of all of them, those that let it begin.

    The one directly ahead of it in its row stands first, then those that it needs, ascending.
    """
    lasts = {}
    letting = {}
    for deed in some_order(schedule):
        machine = deed[2] % schedule.machines
        letting[deed] = lasts.get(machine, ()) + needs(schedule, deed)
        lasts[machine] = (deed,)
    return letting


def ends_of(schedule, lengths, wait):
    """When each deed ends, if each takes so long as lengths tells and begins as early as it can."""
    ends = {}
    for deed, ones in letting_deeds(schedule).items():
        frees = [ends[one] + letter_time(schedule, one, deed, wait) for one in ones]
        ends[deed] = max([0] + frees) + lengths[deed]
    return ends
