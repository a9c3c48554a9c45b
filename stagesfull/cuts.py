"""Cuts of layers into stages, and the best one with its paper."""

from stagesfull.checks import is_between, is_integer, is_sequence
from stagesfull.errors import InvalidNumber


def is_cut(n, cut):
    """Whether cut is a cut of n layers; it may be any value."""
    if not is_sequence(cut):
        return False
    return all([is_integer(many) and many >= 1 for many in cut]) and sum(cut) == n


def stage_layers(cut):
    """For each stage the numbers of its layers."""
    rows = []
    first = 0
    for many in cut:
        rows.append(tuple(range(first, first + many)))
        first += many
    return tuple(rows)


def stage_of(cut, layer):
    """The stage that has this layer."""
    stage = 0
    while layer >= cut[stage]:
        layer -= cut[stage]
        stage += 1
    return stage


def _check_stages(costs, stages):
    if not is_between(stages, 1, len(costs)):
        raise InvalidNumber(stages)


def best_cut(costs, stages):
    """The lowest possible greatest sum of a stage, and the first cut that has it."""
    _check_stages(costs, stages)
    most = _lowest_most(costs, stages)
    return most, _first_cut(costs, stages, most)


def _lowest_most(costs, stages):
    """The lowest possible greatest sum: it is the sum of some neighboring layers."""
    sums = [sum(costs[low:high]) for high in range(1, len(costs) + 1) for low in range(high)]
    return min([most for most in sums if _can_be_cut(costs, stages, most)])


def _can_be_cut(costs, stages, most):
    """Whether there is a cut into so many stages, none of which costs more than most."""
    return len(costs) >= stages >= _fewest_stages(costs, most)


def _fewest_stages(costs, most):
    """How few stages can be, none of which costs more than most (more than layers if none can)."""
    if any([cost > most for cost in costs]):
        return len(costs) + 1
    stages = 0
    # Below 0, so that a first layer that costs nothing begins a stage, too.
    room = -1
    for cost in costs:
        if cost > room:
            stages += 1
            room = most
        room -= cost
    return stages


def _first_cut(costs, stages, most):
    """The first cut, ascending, no stage of which costs more than most."""
    cut = []
    first = 0
    for others in reversed(range(stages)):
        many = 1
        # The first number that leaves a rest that can be cut is never too great itself:
        # each greater one costs more.
        while not _can_be_cut(costs[first + many:], others, most):
            many += 1
        cut.append(many)
        first += many
    return tuple(cut)


def cut_paper(costs, stages):
    """A row of layers that shows that no cut has a lower greatest sum than best_cut's."""
    _check_stages(costs, stages)
    most = _lowest_most(costs, stages)
    for layer, cost in enumerate(costs):
        if cost == most:
            return (layer,)
    paper = [0]
    while len(paper) <= stages:
        paper.append(_first_reaching(costs, paper[-1], most))
    return tuple(paper)


def _first_reaching(costs, first, most):
    """The first later layer such that the costs from the first one to it reach most."""
    last = first
    total = costs[first]
    while total < most:
        last += 1
        total += costs[last]
    return last


def judge_cut(costs, stages, most, paper):
    """Whether paper shows that each cut has a stage whose costs sum up to at least most."""
    if not all([0 <= layer < len(costs) for layer in paper]):
        return False
    if len(paper) == 1:
        return costs[paper[0]] >= most
    if len(paper) != stages + 1:
        return False
    return all([low < high and sum(costs[low:high + 1]) >= most for low, high in zip(paper, paper[1:])])
