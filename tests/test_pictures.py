"""[25]: schedules as pictures."""

import unittest

from samples import dice, time_of, timed_schedules
from stagesfull.moments import busy_at
from stagesfull.pictures import picture
from stagesfull.rules import fill_and_drain, one_and_one
from stagesfull.schedules import Schedule
from stagesfull.times import span, starts


def plain_picture(schedule, forth, back, wait):
    """Sign by sign, straight from the document's words."""
    most = span(schedule, forth, back, wait=wait)
    lines = []
    for row, begins in zip(schedule.rows, starts(schedule, forth, back, wait=wait)):
        signs = ["."] * most
        for deed, begin in zip(row, begins):
            for moment in range(begin, begin + time_of(deed, forth, back)):
                assert signs[moment] == "."
                signs[moment] = ("01234567" if deed[0] == "f" else "abcdefgh")[deed[1]]
        lines.append("".join(signs) + "\n")
    return "".join(lines)


class ByHand(unittest.TestCase):
    def test_without_wait(self):
        self.assertEqual(picture(one_and_one(2, 2, 2), (1, 2), (3, 4)),
                         "01.....aaa...bbb\n"
                         ".00aaaa11bbbb...\n")
        self.assertEqual(picture(one_and_one(2, 3, 2), (1, 1), (2, 2)),
                         "01..aa2bb.cc\n"
                         ".0aa1bb2cc..\n")
        self.assertEqual(picture(fill_and_drain(2, 2, 3), (1, 1), (1, 1)),
                         "012..cba\n"
                         ".012cba.\n")

    def test_with_wait(self):
        self.assertEqual(picture(one_and_one(2, 1, 1), (1, 2), (3, 4), wait=5),
                         "0................aaa\n"
                         "......00aaaa........\n")
        self.assertEqual(picture(one_and_one(2, 2, 2), (1, 1), (1, 1), wait=1),
                         "01...a.b\n"
                         "..0a1b..\n")

    def test_one_machine(self):
        self.assertEqual(picture(fill_and_drain(1, 2, 1), (1, 2), (3, 4), wait=20), "000aaaaaaa\n")
        self.assertEqual(picture(Schedule(1, 1, 2, [[("f", 1, 0), ("f", 0, 0), ("b", 1, 0), ("b", 0, 0)]]),
                                 (1,), (2,)), "10bbaa\n")

    def test_up_to_the_eighth_portion(self):
        for portions in range(1, 9):
            self.assertEqual(picture(fill_and_drain(1, 1, portions), (1,), (1,)),
                             "01234567"[:portions] + "abcdefgh"[:portions][::-1] + "\n")
            self.assertEqual(picture(one_and_one(1, portions, 1), (1,), (2,)),
                             "0aa1bb2cc3dd4ee5ff6gg7hh"[:3 * portions] + "\n")

    def test_names_of_the_arguments(self):
        self.assertEqual(picture(wait=1, back=[2], forth=[1], schedule=one_and_one(1, 1, 1)), "0aa\n")
        with self.assertRaises(TypeError):
            picture(one_and_one(1, 1, 1), [1], [2], 1)


class SignBySign(unittest.TestCase):
    def test_some_schedules(self):
        for schedule, forth, back, wait in timed_schedules(dice(1), 150, 8):
            lists = [list(forth), list(back)]
            found = picture(schedule, forth, back, wait=wait)
            self.assertEqual(found, plain_picture(schedule, forth, back, wait))
            self.assertEqual([forth, back], lists)
            if wait == 0:
                self.assertEqual(picture(schedule, tuple(forth), tuple(back)), found)

    def test_what_each_machine_does(self):
        for schedule, forth, back, wait in timed_schedules(dice(2), 25, 4):
            lines = picture(schedule, forth, back, wait=wait).split("\n")
            self.assertEqual(len(lines), schedule.machines + 1)
            self.assertEqual(lines.pop(), "")
            most = span(schedule, forth, back, wait=wait)
            self.assertEqual({len(line) for line in lines}, {most})
            for moment in range(0, most, max(1, most // 40)):
                for line, deed in zip(lines, busy_at(schedule, forth, back, moment, wait=wait)):
                    if deed is None:
                        self.assertEqual(line[moment], ".")
                    else:
                        self.assertEqual(line[moment], ("abcdefgh" if deed[0] == "b" else "01234567")[deed[1]])


if __name__ == "__main__":
    unittest.main()
