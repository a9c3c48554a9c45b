"""The least spans of schedules whose stages all take the same times."""

from math import gcd

from stagesfull.rules import check_under
from stagesfull.schedules import check_counts


def _turns(machines, portions, under):
    """The least span, counted in times of one stage forward and back."""
    return machines * ((portions - 1) // under) + machines + (portions - 1) % under


def least_span(machines, portions, under, forth, back):
    """The least span with one stage on each machine and at most under portions under way."""
    check_under(machines, portions, under)
    return _turns(machines, portions, under) * (forth + back)


def least_span_many(machines, stages, portions, forth, back):
    """The least span with any number of portions under way."""
    check_counts(machines, stages, portions)
    greater = max(machines, portions)
    lesser = min(machines, portions)
    return (greater * (stages // machines) + lesser - 1) * (forth + back)


def efficiency(machines, portions, under):
    """The share of all machines' time until the least span in which they do deeds, in lowest terms."""
    check_under(machines, portions, under)
    turns = _turns(machines, portions, under)
    divisor = gcd(portions, turns)
    return portions // divisor, turns // divisor


def portions_for(machines, under, over, below):
    """The lowest number of portions whose efficiency is at least over / below, or None."""
    # The efficiency comes as near to under / machines as one likes, but it is never above it,
    # and reaches it only with one portion under way (then at once).
    share = below * under - over * machines
    if share < 0 or (share == 0 and under > 1):
        return None
    portions = 1
    while portions * below < over * _turns(machines, portions, under):
        portions += 1
    return portions
