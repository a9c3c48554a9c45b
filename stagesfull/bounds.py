"""A bound below the spans of all lawful schedules, and the machine that makes it."""


def bottleneck(machines, stages, portions, forth, back, *, wait=0):
    """The bound and the lowest machine that makes it, or None if one portion's way alone does."""
    sums = [_least_end(machines, portions, forth, back, wait, machine) for machine in range(machines)]
    letters = 0 if machines == 1 else 2 * (stages - 1)
    alone = sum(forth) + sum(back) + letters * wait
    if alone > max(sums):
        return alone, None
    return max(sums), sums.index(max(sums))


def _least_end(machines, portions, forth, back, wait, machine):
    """What comes to the machine ahead of its first deed, all its deeds, and what is left behind its last one."""
    ahead = sum(forth[:machine]) + machine * wait
    behind = sum(back[:machine]) + machine * wait
    return ahead + portions * (sum(forth[machine::machines]) + sum(back[machine::machines])) + behind
