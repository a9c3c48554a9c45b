"""Snapshots of runs, and runs that go on from them."""

from stagesfull.checks import as_tuples
from stagesfull.runs import Run


def snapshot(run):
    """All that the run stands on: its machines, what they kept, and the letters on the way."""
    return run.stand()


def restored(net, cut, batch, schedule, rate, saved, *, again=False, own=False):
    """A run, made as the first one was, that is as that one was when it was saved."""
    run = Run(net, cut, batch, schedule, rate, again=again, own=own)
    run.go_back_to(as_tuples(saved))
    return run
