"""What happens in a schedule when, and what is under way at a moment."""

from stagesfull.times import starts, time_of


def events(schedule, forth, back, *, wait=0):
    """All beginnings (marked by 1) and ends (marked by 0) of deeds, ascending."""
    found = []
    for machine, row in enumerate(_stretches(schedule, forth, back, wait)):
        for deed, begin, end in row:
            found.append((begin, 1, machine, deed))
            found.append((end, 0, machine, deed))
    return tuple(sorted(found))


def busy_at(schedule, forth, back, moment, *, wait=0):
    """For each machine the deed that it does at this moment, or None."""
    busy = []
    for row in _stretches(schedule, forth, back, wait):
        now = [deed for deed, begin, end in row if begin <= moment < end]
        busy.append(now[0] if len(now) > 0 else None)
    return tuple(busy)


def portions_at(schedule, forth, back, moment, *, wait=0):
    """The portions that are under way at this moment, ascending."""
    return _under_way_at(_ways(schedule, forth, back, wait), moment)


def most_under_way(schedule, forth, back, *, wait=0):
    """The greatest number of portions that are under way at any moment."""
    ways = _ways(schedule, forth, back, wait)
    # Only where a portion begins there come to be more.
    return max([len(_under_way_at(ways, begin)) for portion, begin, end in ways])


def _stretches(schedule, forth, back, wait):
    """For each machine (deed, its beginning, its end) of its row."""
    rows = []
    for row, begins in zip(schedule.rows, starts(schedule, forth, back, wait=wait)):
        rows.append([(deed, begin, begin + time_of(deed, forth, back)) for deed, begin in zip(row, begins)])
    return rows


def _ways(schedule, forth, back, wait):
    """(portion, the beginning of its first deed, the end of its last deed), ascending."""
    begins = {}
    ends = {}
    # The first and the last deed of each portion stand on the machine of stage 0.
    for deed, begin, end in _stretches(schedule, forth, back, wait)[0]:
        way, portion, stage = deed
        if stage == 0 and way == "f":
            begins[portion] = begin
        elif stage == 0:
            ends[portion] = end
    return [(portion, begins[portion], ends[portion]) for portion in range(schedule.portions)]


def _under_way_at(ways, moment):
    return tuple([portion for portion, begin, end in ways if begin <= moment < end])
