"""Plans: which cut, how many portions under way, and which stages make anew what they need."""

from stagesfull.checks import is_between
from stagesfull.cuts import stage_layers
from stagesfull.errors import InvalidNumber
from stagesfull.rules import one_and_one
from stagesfull.schedules import kept_at_most
from stagesfull.times import span


def best_plan(forth, back, kept, machines, portions, room):
    """(span, cut, under, stages that make anew) with the least span, the first one of these, or None."""
    if not is_between(machines, 1, min(3, len(forth))):
        raise InvalidNumber(machines)
    if not is_between(portions, 1, 6):
        raise InvalidNumber(portions)
    plans = []
    for under in range(1, machines + 1):
        schedule = one_and_one(machines, portions, under)
        many = kept_at_most(schedule)
        for cut in _all_cuts(len(forth), machines):
            for anew in _all_choices(machines):
                if max(_cells(kept, many, cut, anew)) <= room:
                    there, here = _times(forth, back, cut, anew)
                    plans.append((span(schedule, there, here), cut, under, anew))
    return min(plans, default=None)


def _all_cuts(layers, stages):
    """All cuts of so many layers into so many stages."""
    if stages == 1:
        return [(layers,)]
    firsts = range(1, layers - stages + 2)
    return [(many,) + rest for many in firsts for rest in _all_cuts(layers - many, stages - 1)]


def _all_choices(stages):
    """All rows of stages, ascending in themselves."""
    rows = [()]
    for stage in range(stages):
        rows = rows + [row + (stage,) for row in rows]
    return rows


def _cells(kept, many, cut, anew):
    """For each stage how many cells it keeps at most."""
    cells = []
    for stage, layers in enumerate(stage_layers(cut)):
        held = layers[:1] if stage in anew else layers
        cells.append(many[stage] * sum([kept[layer] for layer in held]))
    return cells


def _times(forth, back, cut, anew):
    """The times of the stages, forth and back."""
    there = []
    here = []
    for stage, layers in enumerate(stage_layers(cut)):
        there.append(sum([forth[layer] for layer in layers]))
        again = there[stage] if stage in anew else 0
        here.append(sum([back[layer] for layer in layers]) + again)
    return there, here
