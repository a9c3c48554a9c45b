"""What a run without own says, told without running it, and spans with a slow machine."""

from stagesfull.checks import as_tuples, is_between
from stagesfull.cuts import stage_layers
from stagesfull.errors import NoMachine
from stagesfull.nets import loss_slopes, part_of, way_back, way_forward
from stagesfull.runs import check_run_cut
from stagesfull.times import span


def letter_due(net, cut, batch, schedule, letter):
    """Whether a run without own says this letter, with just these vectors."""
    check_run_cut(net, cut, schedule)
    way, portion, stage, vectors = as_tuples(letter)
    if way not in ("f", "b") or not is_between(portion, 0, schedule.portions - 1):
        return False
    # The stage whose deed gives what the letter brings.
    giver = stage - 1 if way == "f" else stage + 1
    if not is_between(stage, 0, schedule.stages - 1) or not is_between(giver, 0, schedule.stages - 1):
        return False
    if (giver - stage) % schedule.machines == 0:
        return False
    first = stage_layers(cut)[max(giver, stage)][0]
    if way == "f":
        return vectors == _vectors_into(net, batch[portion], first)
    return vectors == _slopes_out_of(net, batch[portion], first)


def _vectors_into(net, portion, layer):
    """For each example what comes into the layer."""
    return tuple([way_forward(net, vector)[layer] for vector, target in portion])


def _slopes_out_of(net, portion, layer):
    """For each example the slopes of what comes into the layer."""
    behind = part_of(net, tuple(range(layer, len(net))))
    rows = []
    for vector, target in portion:
        way = way_forward(net, vector)
        slopes, _ = way_back(behind, way[layer:-1], loss_slopes(net.prime, way[-1], target))
        rows.append(slopes)
    return tuple(rows)


def run_time(schedule, forth, back, machine, slower):
    """The span if the machine takes so many times as long for each of its deeds."""
    if not is_between(machine, 0, schedule.machines - 1):
        raise NoMachine(machine)
    return span(schedule, _slowed(schedule, forth, machine, slower), _slowed(schedule, back, machine, slower))


def _slowed(schedule, times, machine, slower):
    """The times of all stages, those of the machine's stages so many times as long."""
    return [time * slower if stage % schedule.machines == machine else time for stage, time in enumerate(times)]
