"""Runs: machines that go through their rows of deeds and send letters to each other."""

from stagesfull.checks import as_tuples, is_between
from stagesfull.cuts import is_cut, stage_layers
from stagesfull.errors import InvalidCut, NoLetter, NoMachine, NotDone
from stagesfull.nets import Net, loss_slopes
from stagesfull.works import Work


def check_run_cut(net, cut, schedule):
    """Raise InvalidCut unless cut is one of the net's layers into the schedule's stages."""
    if not is_cut(len(net), cut) or len(cut) != schedule.stages:
        raise InvalidCut(cut)


class OnWay:
    """The row of the letters that are on the way.

    What a letter brings stands last in it; all ahead of that tells which letter it is.
    """

    def __init__(self):
        self._letters = []

    def __len__(self):
        return len(self._letters)

    def told(self):
        """Which letters they are, in order."""
        return tuple([letter[:-1] for letter in self._letters])

    def put(self, letters):
        """Put letters at the end."""
        self._letters.extend(letters)

    def _check(self, number):
        if not is_between(number, 0, len(self._letters) - 1):
            raise NoLetter(number)

    def take(self, number):
        """Take the letter of this place out of the row."""
        self._check(number)
        return self._letters.pop(number)

    def put_again(self, number):
        """Put the letter of this place at the end once more."""
        self._check(number)
        self._letters.append(self._letters[number])

    def stand(self):
        """All letters, with what they bring."""
        return tuple(self._letters)

    def go_back_to(self, stand):
        """Have the letters that were there when it told this stand."""
        self._letters = list(stand)


def let_calm(run, machines):
    """Let all machines post, and deliver all letters, again and again until none of them is new."""
    while _brings_new(run, machines):
        pass


def _brings_new(run, machines):
    """Let all machines post, and deliver all letters; whether one was new."""
    for machine in range(machines):
        run.post(machine)
    new = False
    while len(run) > 0:
        if run.deliver(0):
            new = True
    return new


class Machine:
    """One machine of a run, with the works of its stages, its row of deeds, and its letters."""

    def __init__(self, number, schedule, batch, works, prime, rate):
        self.works = works
        self.place = 0
        self.said = []
        self._number = number
        self._deeds = schedule.rows[number]
        self._machines = schedule.machines
        self._stages = schedule.stages
        self._batch = batch
        self._prime = prime
        # None if the works change by themselves.
        self._rate = rate
        self._given = {}
        # A letter is known by its way, portion and stage: they are the deed that is to use it.
        self._got = {}
        self._last_kept = self._stand()

    def is_done(self):
        """Whether it has done its row."""
        return self.place == len(self._deeds)

    def go_on(self):
        """Do the deeds of the row, one after the other, as far as what comes in is there."""
        while not self.is_done():
            deed = self._deeds[self.place]
            came_in = self._came_in(deed)
            if came_in is None:
                return
            self._do(deed, came_in)

    def _came_in(self, deed):
        """What comes in for the deed, or None if it is not there."""
        way, portion, stage = deed
        if way == "f" and stage == 0:
            return tuple([vector for vector, target in self._batch[portion]])
        if way == "b" and stage == self._stages - 1:
            outs = self._given[("f", portion, stage)]
            targets = [target for vector, target in self._batch[portion]]
            return tuple([loss_slopes(self._prime, out, target) for out, target in zip(outs, targets)])
        if deed in self._got:
            return self._got[deed]
        return self._given.get((way, portion, stage - 1 if way == "f" else stage + 1))

    def _do(self, deed, came_in):
        way, portion, stage = deed
        work = self.works[stage]
        if way == "f":
            given = work.go_forward(portion, came_in)
            user = stage + 1
        else:
            given = work.go_back(portion, came_in)
            user = stage - 1
        self._given[deed] = given
        if 0 <= user < self._stages and user % self._machines != self._number:
            self.said.append((way, portion, user, given))
        self.place += 1
        if self.is_done() and self._rate is not None:
            for at in sorted(self.works):
                self.works[at].change(self._rate)

    def take_letter(self, letter):
        """Get the letter, unless it has got one like it, and go on; whether it was new."""
        way, portion, stage, vectors = letter
        if (way, portion, stage) in self._got:
            return False
        self._got[(way, portion, stage)] = vectors
        self.go_on()
        return True

    def keep_stand(self):
        """Keep the present stand."""
        self._last_kept = self._stand()

    def fall_back(self):
        """Go back to the stand that was kept last, or to the beginning, and go on."""
        self._be_as(self._last_kept)
        self.go_on()

    def stand(self):
        """All that changes in the machine, with what it kept, in plain tuples."""
        return self._stand(), self._last_kept

    def go_back_to(self, stand):
        """Be as it was when it told this stand."""
        present, self._last_kept = stand
        self._be_as(present)

    def _be_as(self, stand):
        self.place, stands, given, said, got = stand
        for stage, one in stands:
            self.works[stage].go_back_to(one)
        self._given = {deed: vectors for deed, vectors in given}
        self.said = list(said)
        self._got = {deed: vectors for deed, vectors in got}

    def _stand(self):
        """All that keeping keeps, in plain tuples."""
        stands = tuple([(stage, self.works[stage].stand()) for stage in sorted(self.works)])
        given = tuple([(deed, self._given[deed]) for deed in self._given])
        got = tuple([(deed, self._got[deed]) for deed in self._got])
        return (self.place, stands, given, tuple(self.said), got)

    def layers_gone_through(self):
        """The sum of its works' layers_done."""
        return sum([self.works[stage].layers_done for stage in self.works])


class Run:
    """One batch on its way through the machines, and the letters between them."""

    def __init__(self, net, cut, batch, schedule, rate, *, again=False, own=False):
        check_run_cut(net, cut, schedule)
        self._prime = net.prime
        self._kinds = net.kinds
        self._stages = schedule.stages
        self._on_way = OnWay()
        self._machines = []
        plain = as_tuples(batch)
        layers = stage_layers(cut)
        for number in range(schedule.machines):
            works = {stage: Work(net, layers[stage], again, own, rate)
                     for stage in range(number, schedule.stages, schedule.machines)}
            machine = Machine(number, schedule, plain, works, net.prime, None if own else rate)
            machine.go_on()
            self._machines.append(machine)

    def __len__(self):
        return len(self._on_way)

    def _known(self, machine):
        """The machine of this number."""
        if not is_between(machine, 0, len(self._machines) - 1):
            raise NoMachine(machine)
        return self._machines[machine]

    def post(self, machine):
        """Put all letters that the machine has said at the end of the row of letters on the way."""
        self._on_way.put(self._known(machine).said)

    def letters(self):
        """(way, portion, stage) of the letters on the way."""
        return self._on_way.told()

    def deliver(self, number):
        """Bring the letter of this place to its machine; whether it was new there."""
        letter = self._on_way.take(number)
        return self._machines[letter[2] % len(self._machines)].take_letter(letter)

    def double(self, number):
        """Put the letter of this place at the end once more."""
        self._on_way.put_again(number)

    def lose(self, number):
        """Take the letter of this place out of the row."""
        self._on_way.take(number)

    def place_of(self, machine):
        """How many deeds of its row the machine has done."""
        return self._known(machine).place

    def keep(self, machine):
        """Let the machine keep its stand."""
        self._known(machine).keep_stand()

    def fall(self, machine):
        """Let the machine go back to what it kept last, or to its beginning, and go on."""
        self._known(machine).fall_back()

    def is_done(self):
        """Whether all machines have done their rows."""
        return all([machine.is_done() for machine in self._machines])

    def calm(self):
        """Post and deliver all letters again and again, until none of them is new."""
        let_calm(self, len(self._machines))

    def trained(self):
        """The net with the weights of all works."""
        for number, machine in enumerate(self._machines):
            if not machine.is_done():
                raise NotDone(number)
        weights = []
        for stage in range(self._stages):
            weights.extend(self._machines[stage % len(self._machines)].works[stage].matrices())
        return Net(self._prime, weights, self._kinds)

    def layers_by_machine(self):
        """For each machine the sum of its works' layers_done."""
        return tuple([machine.layers_gone_through() for machine in self._machines])

    def stand(self):
        """The stands of all machines, with what they kept, and the letters on the way, in plain tuples."""
        return tuple([machine.stand() for machine in self._machines]), self._on_way.stand()

    def go_back_to(self, stand):
        """Be as the run was that told this stand."""
        stands, letters = stand
        for machine, one in zip(self._machines, stands):
            machine.go_back_to(one)
        self._on_way.go_back_to(letters)
