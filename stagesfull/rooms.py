"""Which stages make anew what they need, so that what the others keep has room."""


def best_again(kept, costs, room):
    """The lowest sum of costs, and the first row of stages that make anew and cost so much."""
    # For each sum of what is kept the best choice among the stages from one on. Going from the last
    # stage to the first, what is put ahead of two rows leaves them in their order.
    bests = {0: (0, ())}
    for stage in reversed(range(len(kept))):
        bests = _with_stage(bests, stage, kept[stage], costs[stage], room)
    return min(bests.values())


def _with_stage(bests, stage, keeps, cost, room):
    """The best choices if this stage, which stands ahead of the others, chooses, too."""
    found = {}
    for total, (sum_of_costs, stages) in bests.items():
        _put_best(found, total, (sum_of_costs + cost, (stage,) + stages))
        if total + keeps <= room:
            _put_best(found, total + keeps, (sum_of_costs, stages))
    return found


def _put_best(found, total, choice):
    if total not in found or choice < found[total]:
        found[total] = choice
