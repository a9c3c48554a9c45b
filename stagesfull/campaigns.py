"""Campaigns: one run after the other, and the slopes of several batches together."""

from stagesfull.nets import added_slopes, batch_slopes, no_slopes
from stagesfull.runs import Run, check_run_cut


def campaign(net, legs):
    """The net after one run for each leg, each beginning with what the one ahead has trained."""
    # Ahead of all runs, so that nothing is run if a later cut is wrong.
    for leg in legs:
        check_run_cut(net, leg[0], leg[2])
    trained = net
    for cut, batch, schedule, rate, again in legs:
        run = Run(trained, cut, batch, schedule, rate, again=again)
        run.calm()
        trained = run.trained()
    return trained


def epoch_slopes(net, batches):
    """The sums of portion_slopes over all portions of all batches."""
    sums = no_slopes(net)
    for batch in batches:
        sums = added_slopes(net, sums, batch_slopes(net, batch))
    return sums
