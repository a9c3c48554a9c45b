"""Told schedules, and schedules as text."""

from stagesfull.checks import is_between, is_short_number
from stagesfull.errors import InvalidNumber, InvalidText
from stagesfull.schedules import Schedule, check_counts


def fill_and_drain(machines, stages, portions):
    """The schedule in which each machine does all its deeds forward and then all back."""
    check_counts(machines, stages, portions)
    rows = []
    for machine in range(machines):
        places = [(stage, portion) for stage in range(machine, stages, machines) for portion in range(portions)]
        there = [("f", portion, stage) for stage, portion in places]
        back = [("b", portion, stage) for stage, portion in places[::-1]]
        rows.append(there + back)
    return Schedule(machines, stages, portions, rows)


def check_under(machines, portions, under):
    """Raise InvalidNumber with the first one that one_and_one does not take."""
    check_counts(machines, machines, portions)
    if not is_between(under, 1, machines):
        raise InvalidNumber(under)


def one_and_one(machines, portions, under):
    """The schedule that has at most under portions under way, one stage on each machine."""
    check_under(machines, portions, under)
    rows = [_one_and_one_row(machines, portions, under, stage) for stage in range(machines)]
    return Schedule(machines, machines, portions, rows)


def _one_and_one_row(machines, portions, under, stage):
    placed = []
    for portion in range(portions):
        turn = portion // under * machines + portion % under
        placed.append((2 * turn + stage, ("f", portion, stage)))
        placed.append((2 * turn + 2 * machines - 1 - stage, ("b", portion, stage)))
    return [deed for place, deed in sorted(placed)]


def row_text(schedule):
    """A line for each machine with its deeds."""
    return "".join([_line_of(row) + "\n" for row in schedule.rows])


def _line_of(row):
    return " ".join([f"{way}{portion}.{stage}" for way, portion, stage in row])


def read_rows(text):
    """The rows of deeds that the lines of text tell."""
    if not isinstance(text, str) or text == "":
        raise InvalidText(text, 0)
    lines = text.split("\n")
    rows = []
    for number, line in enumerate(lines[:-1]):
        row = [_deed_of(word) for word in line.split(" ")]
        if None in row:
            raise InvalidText(text, number)
        rows.append(tuple(row))
    if lines[-1] != "":
        raise InvalidText(text, len(lines) - 1)
    return tuple(rows)


def _deed_of(word):
    """The deed that the word tells, or None if it tells none."""
    way = word[:1]
    portion, _, stage = word[1:].partition(".")
    if way not in ("f", "b") or not is_short_number(portion) or not is_short_number(stage):
        return None
    return (way, int(portion), int(stage))
