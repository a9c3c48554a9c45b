"""What becomes of a span when deeds take longer, and how much longer each may take."""

from stagesfull.times import deed_times, ends_of, letter_time, letting_deeds


def delayed_span(schedule, forth, back, extra, *, wait=0):
    """The span if each of the deeds in extra takes so much longer."""
    lengths = deed_times(schedule, forth, back)
    for deed, number in extra:
        lengths[tuple(deed)] += number
    return max(ends_of(schedule, lengths, wait).values())


def slack(schedule, forth, back, *, wait=0):
    """For each deed of each machine's row how much longer it alone may take with the same span."""
    lengths = deed_times(schedule, forth, back)
    ends = ends_of(schedule, lengths, wait)
    behind = _least_behind(schedule, lengths, wait)
    most = max(ends.values())
    return tuple([tuple([most - ends[deed] - behind[deed] for deed in row]) for row in schedule.rows])


def _least_behind(schedule, lengths, wait):
    """For each deed how long it takes from its end to the end of all that waits for it."""
    letting = letting_deeds(schedule)
    behind = {deed: 0 for deed in letting}
    for deed in list(letting)[::-1]:
        for one in letting[deed]:
            longer = letter_time(schedule, one, deed, wait) + lengths[deed] + behind[deed]
            behind[one] = max(behind[one], longer)
    return behind
