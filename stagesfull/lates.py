"""Training in which each portion changes the weights at once: the plain way, by one hand."""

from stagesfull.cuts import stage_layers
from stagesfull.nets import Net, added_slopes, changed, loss_slopes, no_slopes, part_of, way_back, way_forward
from stagesfull.runs import check_run_cut
from stagesfull.schedules import some_order


class Hand:
    """One hand that does all deeds, and keeps all versions of each stage's part of the net."""

    def __init__(self, net, cut, batch, rate):
        self._net = net
        self._batch = batch
        self._rate = rate
        self._versions = [[part_of(net, layers)] for layers in stage_layers(cut)]
        # For each portion and stage the version used, and for each example its way through the layers.
        self._gone = {}
        # For each portion and stage, for each example the slopes of what came in.
        self._slopes = {}

    def forward_through(self, portion, stage):
        """Do the deed forward."""
        if stage == 0:
            vectors = [vector for vector, target in self._batch[portion]]
        else:
            vectors = self._outs(portion, stage - 1)
        version = len(self._versions[stage]) - 1
        part = self._versions[stage][version]
        self._gone[(portion, stage)] = (version, [way_forward(part, vector) for vector in vectors])

    def _outs(self, portion, stage):
        return [way[-1] for way in self._gone[(portion, stage)][1]]

    def back_through(self, portion, stage):
        """Do the deed back, with the version that the way forward used, and change the present one."""
        version, ways = self._gone[(portion, stage)]
        part = self._versions[stage][version]
        sums = no_slopes(part)
        came_in = []
        for way, slopes in zip(ways, self._slopes_behind(portion, stage)):
            back, matrices = way_back(part, way[:-1], slopes)
            came_in.append(back)
            sums = added_slopes(part, sums, matrices)
        self._slopes[(portion, stage)] = came_in
        self._versions[stage].append(changed(self._versions[stage][-1], sums, self._rate))

    def _slopes_behind(self, portion, stage):
        """For each example the slopes of what came out of the stage."""
        if stage < len(self._versions) - 1:
            return self._slopes[(portion, stage + 1)]
        outs = self._outs(portion, stage)
        targets = [target for vector, target in self._batch[portion]]
        return [loss_slopes(self._net.prime, out, target) for out, target in zip(outs, targets)]

    def last_net(self):
        """The net with the last version of each stage."""
        weights = [matrix for versions in self._versions for matrix in versions[-1].weights]
        return Net(self._net.prime, weights, self._net.kinds)


def late_train(net, cut, batch, schedule, rate):
    """The net after all deeds, each portion changing the weights of each stage at once."""
    check_run_cut(net, cut, schedule)
    hand = Hand(net, cut, batch, rate)
    for way, portion, stage in some_order(schedule):
        if way == "f":
            hand.forward_through(portion, stage)
        else:
            hand.back_through(portion, stage)
    return hand.last_net()


def version_used(schedule, portion, stage):
    """How many deeds back through the stage its machine does ahead of taking the portion forward."""
    row = schedule.rows[stage % schedule.machines]
    ahead = row[:row.index(("f", portion, stage))]
    return len([deed for deed in ahead if deed[0] == "b" and deed[2] == stage])
