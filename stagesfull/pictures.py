"""Schedules as pictures, with a sign for each machine and each unit of time."""

from stagesfull.times import span, starts, time_of

LETTERS = "abcdefgh"


def picture(schedule, forth, back, *, wait=0):
    """A line for each machine: what it does in each unit of time until the span."""
    most = span(schedule, forth, back, wait=wait)
    lines = []
    for row, begins in zip(schedule.rows, starts(schedule, forth, back, wait=wait)):
        line = ""
        for deed, begin in zip(row, begins):
            line += "." * (begin - len(line)) + _sign_of(deed) * time_of(deed, forth, back)
        lines.append(line + "." * (most - len(line)) + "\n")
    return "".join(lines)


def _sign_of(deed):
    way, portion, _ = deed
    return str(portion) if way == "f" else LETTERS[portion]
