"""[22]: nets as text."""

import re
import unittest
from itertools import product

from samples import ANY_VALUES, PRIMES, all_tuples, dice, some_net
from stagesfull.errors import InvalidText
from stagesfull.nets import Net
from stagesfull.stands import read_net, write_net

TEXT = "net 7 2\nline 1 2 3 4\nsquare 0 6 5 0\n"
NET = Net(7, (((1, 2), (3, 4)), ((0, 6), (5, 0))), ("line", "square"))
NUMBER = r"(0|[1-9][0-9]{0,400})"


def plain_read(text):
    """The net of a text, or the number of its first wrong line, straight from the document's words."""
    if not isinstance(text, str) or not text:
        return 0
    *lines, rest = text.split("\n")
    head = re.fullmatch(f"net {NUMBER} {NUMBER}", lines[0]) if lines else None
    if not head or int(head[1]) not in PRIMES or int(head[2]) not in (1, 2, 3):
        return 0
    prime, width = int(head[1]), int(head[2])
    weights, kinds = [], []
    for line, words in enumerate(lines[1:], 1):
        if line == 7 or not re.fullmatch(f"(line|square)( {NUMBER})*", words):
            return line
        kind, *numbers = words.split(" ")
        numbers = list(map(int, numbers))
        if len(numbers) != width ** 2 or any(number >= prime for number in numbers):
            return line
        weights.append([numbers[width * i:][:width] for i in range(width)])
        kinds.append(kind)
    if rest or not kinds:
        return len(lines)
    return Net(prime, weights, kinds)


def written(prime, width, layers):
    """A text that need not tell a net."""
    return "".join(f"{line}\n" for line in (f"net {prime} {width}", *layers))


class Texts(unittest.TestCase):
    def check(self, text):
        """Read a text, wrong or right; whether it is right."""
        wanted = plain_read(text)
        if isinstance(wanted, Net):
            self.assertEqual(read_net(text), wanted)
            # No other text is read as this net.
            self.assertEqual(write_net(wanted), text)
            return True
        self.wrong(text, wanted)
        return False

    def wrong(self, text, line):
        with self.assertRaises(InvalidText) as caught:
            read_net(text)
        self.assertIs(caught.exception.text, text)
        self.assertEqual(caught.exception.line, line)
        self.assertIs(type(caught.exception.line), int)


class Written(Texts):
    def test_by_hand(self):
        self.assertEqual(write_net(NET), TEXT)
        self.assertEqual(write_net(net=Net(97, [[[96]]], ["square"])), "net 97 1\nsquare 96\n")
        self.assertEqual(write_net(Net(2, [[[0, 1, 0], [1, 1, 1], [0, 0, 1]]], ["line"])),
                         "net 2 3\nline 0 1 0 1 1 1 0 0 1\n")

    def test_nets_of_every_kind(self):
        rng = dice(1)
        for prime, layers, width in product(PRIMES, range(1, 7), range(1, 4)):
            net = some_net(rng, prime, layers, width)
            text = write_net(net)
            self.assertEqual(text, written(prime, width, [
                " ".join([kind, *(str(number) for row in matrix for number in row)])
                for kind, matrix in zip(net.kinds, net.weights)]))
            found = read_net(text=text)
            self.assertIsInstance(found, Net)
            self.assertEqual(found, net)
            self.assertTrue(all_tuples((found.weights, found.kinds)))
            self.assertTrue(self.check(text))

    def test_all_small_nets(self):
        texts = set()
        many = 0
        for prime in (2, 3):
            for layers in (1, 2):
                for kinds in product(("line", "square"), repeat=layers):
                    for numbers in product(range(prime), repeat=layers):
                        net = Net(prime, [[[number]] for number in numbers], kinds)
                        self.assertEqual(read_net(write_net(net)), net)
                        texts.add(write_net(net))
                        many += 1
        self.assertEqual(len(texts), many)


class Wrong(Texts):
    def test_the_first_line(self):
        rest = TEXT.partition("\n")[2]
        for line in ("", "net", "net 7", "net  7 2", "net 7  2", " net 7 2", "net 7 2 ", "net 7 2 1", "Net 7 2", "7 2",
                     "line 7 2", "net 07 2", "net 7 02", "net +7 2", "net 7 +2", "net -7 2", "net 7.0 2", "net\t7 2",
                     "net 7 2\r", "net 7 2\t", "net seven 2", "net 7 two", "net 2 7", "\u0667", "net \u0667 2",
                     "net 7 \u0662", "net 7 \u00b2", "net 7_ 2", "net 7 2,", "square 1 2 3 4", "net 007 2"):
            self.wrong(f"{line}\n{rest}", 0)
            self.wrong(line, 0)
            self.wrong(f"{line}\n", 0)
            self.assertFalse(self.check(f"{line}\n{rest}"))
        for prime in [*range(-3, 110), 10 ** 9, 10 ** 399, 997]:
            if prime not in PRIMES:
                self.wrong(written(prime, 1, ["line 0"]), 0)
        self.wrong("net " + "1" * 5000 + " 1\nline 0\n", 0)
        self.wrong("net 7 " + "1" * 5000 + "\nline 0\n", 0)

    def test_widths(self):
        for width in range(9):
            layers = [" ".join(["line"] + ["1"] * width ** 2)]
            if width in (1, 2, 3):
                self.assertEqual(read_net(written(7, width, layers)).width, width)
            else:
                self.wrong(written(7, width, layers), 0)
        self.wrong(write_net(Net(7, [[[1] * 4] * 4], ["line"])), 0)
        self.wrong("net 7 10\n", 0)
        self.wrong("net 7 -1\nline 1\n", 0)

    def test_other_lines(self):
        for line in ("", " ", "line", "square", "line 1", "line 1 2 3", "line 1 2 3 4 5", "line 1 2 3 4 ",
                     " line 1 2 3 4", "line  1 2 3 4", "line 1 2  3 4", "line 1 2 3 7", "line 7 2 3 4", "line 1 2 3 8",
                     "line 1 2 3 10", "line 1 2 3 96", "line 1 2 3 04", "line 00 2 3 4", "line 1 2 3 -4",
                     "line 1 2 3 +4", "line 1 2 3 4.0", "line 1 2 3 x", "Line 1 2 3 4", "lines 1 2 3 4", "net 7 2",
                     "1 2 3 4", "line 1 2 3\t4", "line 1 2 3 4\r", "line\t1 2 3 4", "square square 2 3 4",
                     "cube 1 2 3 4", "line 1 2 3 \u0664", "line 1 2 3 \u00b2", "line 1,2,3,4", "line 1 2 3 4_",
                     "line 1 2 3 " + "1" * 5000, "line 1 2 3 " + "0" * 5000):
            for ahead in range(6):
                text = written(7, 2, ["line 1 2 3 4"] * ahead + [line])
                self.wrong(text, ahead + 1)
                # The first one that is wrong counts.
                self.wrong(text + line + "\n", ahead + 1)
                self.wrong(text + "net", ahead + 1)
                self.wrong(text + "square 1 2 3 4\n", ahead + 1)
                self.assertFalse(self.check(text))

    def test_numbers_at_and_above_the_prime(self):
        for prime in PRIMES:
            for number in range(101):
                text = written(prime, 1, ["square 1", f"line {number}"])
                self.assertEqual(self.check(text), number < prime)

    def test_a_seventh_layer(self):
        six = written(7, 1, ["line 1"] * 6)
        self.assertEqual(len(read_net(six)), 6)
        self.wrong(six + "line 1\n", 7)
        self.wrong(six + "line 1\n" * 2, 7)
        self.wrong(six + "line 1", 7)
        self.wrong(six + "\n", 7)
        self.wrong(six + "x", 7)
        self.wrong(write_net(Net(7, [[[1]]] * 7, ["line"] * 7)), 7)
        self.wrong(write_net(Net(7, [[[1]]] * 8, ["line"] * 8)), 7)
        self.wrong(written(7, 1, ["line 1"] * 5 + ["line 9", "line 1"]), 6)

    def test_too_few_lines(self):
        self.wrong("net 7 1\n", 1)
        self.wrong("net 7 1", 0)
        self.wrong("\n", 0)
        self.wrong("", 0)

    def test_the_end(self):
        for many in range(1, 7):
            text = written(7, 1, ["line 1"] * many)
            self.assertTrue(self.check(text))
            self.wrong(text[:-1], many)
            for rest in (" ", "x", "line 1", "\r", "\t", "\x0b"):
                self.wrong(text + rest, many + 1)
            self.wrong(text + "\n", many + 1)
        self.wrong("line 1\n", 0)
        self.wrong("net 7 1\nline 1\x0bline 1\n", 1)
        self.wrong("net 7 1\nline 1\u2028line 1\n", 1)

    def test_values_of_any_kind(self):
        for value in [*ANY_VALUES, [TEXT], (TEXT,), 7, ["net 7 1", "line 1"]]:
            self.wrong(value, 0)


class Changed(Texts):
    """Texts of nets in which something is changed, left out, put in, or doubled."""

    def test_each_sign(self):
        rights = 0
        for text in (TEXT, "net 11 1\nsquare 10\nline 0\n", "net 2 1\nline 1\n"):
            for at in range(len(text) + 1):
                for sign in "019alnq \n\t-.":
                    rights += self.check(text[:at] + sign + text[at:])
                    rights += self.check(text[:at] + sign + text[at + 1:])
                rights += self.check(text[:at] + text[at + 1:])
                rights += self.check(text[:at] + text[at:at + 1] * 2 + text[at + 1:])
                rights += self.check(text[:at])
                rights += self.check(text[at:])
        self.assertGreater(rights, 20)

    def test_words_and_lines(self):
        rng = dice(2)
        rights = 0
        for _ in range(1500):
            net = some_net(rng, rng.choice((2, 3, 7, 11, 97)))
            lines = [line.split(" ") for line in write_net(net).split("\n")]
            for _ in range(rng.choice((1, 1, 2))):
                row = rng.choice((lines, rng.choice(lines)))
                at = rng.randrange(len(row)) if row else 0
                word = rng.choice(("0", "1", "2", "7", "96", "97", "00", "line", "square", "net", "", "-1", "x"))
                new = word if row is not lines else [word]
                row[at:at + rng.choice((0, 1))] = rng.choice(([], [new], row[at:at + 1], row[at:at + 1] * 2))
            rights += self.check("\n".join(" ".join(line) for line in lines))
        self.assertGreater(rights, 100)


if __name__ == "__main__":
    unittest.main()
