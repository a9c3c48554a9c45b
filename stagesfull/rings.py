"""Rings of machines that sum up their rows, each sending parts of its own to the next one."""

from stagesfull.checks import is_between
from stagesfull.errors import NoMachine
from stagesfull.runs import OnWay, let_calm


class Member:
    """One machine of a ring: its row, what it has said, and what it has got."""

    def __init__(self, number, machines, row):
        self.said = []
        self._number = number
        self._machines = machines
        self._row = list(row)
        # How many letters it has used: that of this turn is the next one.
        self._turn = 0
        self._got = {}
        self._say()

    def is_done(self):
        """Whether it has used the letters of all turns."""
        return self._turn == 2 * self._machines - 2

    def present_row(self):
        """Its row as it is now."""
        return tuple(self._row)

    def take_letter(self, turn, numbers):
        """Get the letter of this turn, unless it has got it already, and go on; whether it was new."""
        if turn in self._got:
            return False
        self._got[turn] = numbers
        while self._turn in self._got:
            self._use(self._got[self._turn])
            self._turn += 1
            self._say()
        return True

    def _ends_of_part(self, behind):
        """Where the part begins that stands so many behind the machine's number, and where it ends."""
        part = (self._number - behind) % self._machines
        return part * len(self._row) // self._machines, (part + 1) * len(self._row) // self._machines

    def _use(self, numbers):
        # The neighbor, whose number is one lower, has said this part of its row.
        low, high = self._ends_of_part(self._turn + 1)
        if self._turn <= self._machines - 2:
            numbers = [one + other for one, other in zip(self._row[low:high], numbers)]
        self._row[low:high] = list(numbers)

    def _say(self):
        if not self.is_done():
            low, high = self._ends_of_part(self._turn)
            self.said.append((self._turn, (self._number + 1) % self._machines, tuple(self._row[low:high])))


class Ring:
    """Machines in a ring, each with a row of integers, and the letters between them."""

    def __init__(self, vectors):
        self._members = [Member(number, len(vectors), row) for number, row in enumerate(vectors)]
        self._on_way = OnWay()

    def __len__(self):
        return len(self._on_way)

    @property
    def numbers_said(self):
        """How many integers there are in all letters that were ever said, each letter counted once."""
        return sum([len(numbers) for member in self._members for turn, to, numbers in member.said])

    def _known(self, machine):
        """The machine of this number."""
        if not is_between(machine, 0, len(self._members) - 1):
            raise NoMachine(machine)
        return self._members[machine]

    def post(self, machine):
        """Put all letters that the machine has said at the end of the row of letters on the way."""
        self._on_way.put(self._known(machine).said)

    def letters(self):
        """(turn, to) of the letters on the way."""
        return self._on_way.told()

    def deliver(self, number):
        """Bring the letter of this place to its machine; whether it was new there."""
        turn, to, numbers = self._on_way.take(number)
        return self._members[to].take_letter(turn, numbers)

    def double(self, number):
        """Put the letter of this place at the end once more."""
        self._on_way.put_again(number)

    def lose(self, number):
        """Take the letter of this place out of the row."""
        self._on_way.take(number)

    def calm(self):
        """Post and deliver all letters again and again, until none of them is new."""
        let_calm(self, len(self._members))

    def is_done(self):
        """Whether all machines have used the letters of all turns."""
        return all([member.is_done() for member in self._members])

    def row(self, machine):
        """The machine's present row."""
        return self._known(machine).present_row()
