"""A stage at work: its part of a net, the portions on their way through it, and their slopes."""

from stagesfull.nets import Net, added_slopes, changed, no_slopes, way_back, way_forward


class Work:
    """A stage's part of a net.

    All that changes in it is held in plain tuples, so that a stand can be told and gone back to.
    """

    def __init__(self, net, layers, again, own=False, rate=0):
        self.rate = rate
        self.version = 0
        self.layers_done = 0
        self._again = again
        self._own = own
        self._prime = net.prime
        self._kinds = tuple([net.kinds[layer] for layer in layers])
        self._weights = tuple([net.weights[layer] for layer in layers])
        self._sums = no_slopes(self._part_with(self._weights))
        # For each portion on its way the weights that it used, and for each example the kept vectors.
        self._held = {}
        self._used = {}

    def _part_with(self, weights):
        """The stage's part of the net, with these weights."""
        return Net(self._prime, weights, self._kinds)

    def go_forward(self, portion, vectors):
        """Take the portion forward: what comes out of the last layer."""
        part = self._part_with(self._weights)
        ways = [way_forward(part, vector) for vector in vectors]
        many = 1 if self._again else len(part)
        self._held[portion] = (self._weights, tuple([way[:many] for way in ways]))
        self._used[portion] = self.version
        self.layers_done += len(ways) * len(part)
        return tuple([way[-1] for way in ways])

    def go_back(self, portion, slopes):
        """Take the portion back: the slopes of what came in."""
        weights, rows = self._held.pop(portion)
        part = self._part_with(weights)
        if self._again:
            rows = [way_forward(part, row[0])[:-1] for row in rows]
            self.layers_done += len(rows) * len(part)
        backs = [way_back(part, row, out) for row, out in zip(rows, slopes)]
        total = no_slopes(part)
        for back in backs:
            total = added_slopes(part, total, back[1])
        self._take_slopes(total)
        return tuple([back[0] for back in backs])

    def _take_slopes(self, slopes):
        if self._own:
            self._change_by(slopes, self.rate)
        else:
            self._sums = added_slopes(self._part_with(self._weights), self._sums, slopes)

    def _change_by(self, slopes, rate):
        self._weights = changed(self._part_with(self._weights), slopes, rate).weights
        self.version += 1

    def sums(self):
        """For each layer the matrix of the sums of slopes."""
        return self._sums

    def kept(self):
        """How many vectors are kept for the ways back."""
        return sum([len(row) for weights, rows in self._held.values() for row in rows])

    def change(self, rate):
        """Change the weights by the sums, which are 0 afterwards."""
        self._change_by(self._sums, rate)
        self._sums = no_slopes(self._part_with(self._weights))

    def matrices(self):
        """For each layer the present matrix."""
        return self._weights

    def versions(self):
        """(portion, the version that its way forward used), ascending."""
        return tuple([(portion, self._used[portion]) for portion in sorted(self._used)])

    def stand(self):
        """All that changes in the work, in plain tuples."""
        held = tuple([(portion, self._held[portion]) for portion in self._held])
        return (self.version, self.layers_done, self._weights, self._sums, held, self.versions())

    def go_back_to(self, stand):
        """Be as it was when it told this stand."""
        self.version, self.layers_done, self._weights, self._sums, held, versions = stand
        self._held = {portion: kept for portion, kept in held}
        self._used = {portion: version for portion, version in versions}
