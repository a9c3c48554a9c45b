"""[11]: told schedules, and schedules as text."""

import unittest

from samples import ANY_VALUES, all_tuples, any_values_but, as_lists, dice, plain_needs, some_schedule
from stagesfull.errors import InvalidNumber, InvalidText
from stagesfull.rules import fill_and_drain, one_and_one, read_rows, row_text
from stagesfull.schedules import Schedule, kept_at_most, some_order, under_way


class Told(unittest.TestCase):
    def check_lawful(self, schedule):
        """The deeds can be done in their rows, each after what it needs; Schedule says so, too."""
        same = Schedule(schedule.machines, schedule.stages, schedule.portions, schedule.rows)
        self.assertEqual(same, schedule)
        order = some_order(schedule)
        self.assertEqual(len(order), 2 * schedule.stages * schedule.portions)
        for place, deed in enumerate(order):
            self.assertLessEqual(set(plain_needs(schedule.stages, deed)), set(order[:place]))

    def test_fill_and_drain(self):
        for machines in range(1, 5):
            for stages in range(machines, 13, machines):
                for portions in range(1, 9):
                    schedule = fill_and_drain(machines, stages, portions)
                    self.assertIsInstance(schedule, Schedule)
                    self.assertEqual((schedule.machines, schedule.stages, schedule.portions),
                                     (machines, stages, portions))
                    self.assertTrue(all_tuples(schedule.rows))
                    for machine, row in enumerate(schedule.rows):
                        own = sorted((stage, portion) for stage in range(stages) if stage % machines == machine
                                     for portion in range(portions))
                        wanted = [("f", portion, stage) for stage, portion in own]
                        wanted += [("b", portion, stage) for stage, portion in reversed(own)]
                        self.assertEqual(row, tuple(wanted))
                    self.check_lawful(schedule)

    def test_fill_and_drain_by_hand(self):
        self.assertEqual(row_text(fill_and_drain(2, 4, 2)),
                         "f0.0 f1.0 f0.2 f1.2 b1.2 b0.2 b1.0 b0.0\n"
                         "f0.1 f1.1 f0.3 f1.3 b1.3 b0.3 b1.1 b0.1\n")
        self.assertEqual(fill_and_drain(portions=1, stages=1, machines=1).rows, ((("f", 0, 0), ("b", 0, 0)),))

    def test_one_and_one(self):
        for machines in range(1, 5):
            for portions in range(1, 9):
                for under in range(1, machines + 1):
                    schedule = one_and_one(machines, portions, under)
                    self.assertIsInstance(schedule, Schedule)
                    self.assertEqual((schedule.machines, schedule.stages, schedule.portions),
                                     (machines, machines, portions))
                    for stage, row in enumerate(schedule.rows):
                        places = {}
                        for portion in range(portions):
                            g, j = divmod(portion, under)
                            t = g * machines + j
                            places[2 * t + stage] = ("f", portion, stage)
                            places[2 * t + 2 * machines - 1 - stage] = ("b", portion, stage)
                        self.assertEqual(len(places), 2 * portions)
                        self.assertEqual(row, tuple(places[place] for place in sorted(places)))
                    self.check_lawful(schedule)
                    self.assertLessEqual(max(kept_at_most(schedule)), under)
                    self.assertLessEqual(under_way(schedule, some_order(schedule)), portions)

    def test_one_and_one_by_hand(self):
        self.assertEqual(row_text(one_and_one(2, 3, 2)),
                         "f0.0 f1.0 b0.0 f2.0 b1.0 b2.0\nf0.1 b0.1 f1.1 b1.1 f2.1 b2.1\n")
        self.assertEqual(row_text(one_and_one(under=1, portions=2, machines=2)),
                         "f0.0 b0.0 f1.0 b1.0\nf0.1 b0.1 f1.1 b1.1\n")


class WrongNumbers(unittest.TestCase):
    def check(self, asked, given, wrong):
        with self.assertRaises(InvalidNumber) as caught:
            asked(*given)
        self.assertIs(caught.exception.number, wrong)

    def test_fill_and_drain(self):
        for value in [0, 5, *any_values_but(1)]:
            self.check(fill_and_drain, (value, 2, 2), value)
            self.check(fill_and_drain, (value, None, "x"), value)
        for value in [0, 1, 3, 13, 14, *any_values_but(2)]:
            self.check(fill_and_drain, (2, value, 2), value)
            self.check(fill_and_drain, (2, value, None), value)
        for value in [0, 9, *any_values_but(1)]:
            self.check(fill_and_drain, (2, 2, value), value)

    def test_one_and_one(self):
        for value in [0, 5, *any_values_but(1)]:
            self.check(one_and_one, (value, 2, 1), value)
            self.check(one_and_one, (value, None, "x"), value)
        for value in [0, 9, *any_values_but(1)]:
            self.check(one_and_one, (2, value, 1), value)
            self.check(one_and_one, (2, value, 0), value)
        for machines in range(1, 5):
            for value in [0, -1, machines + 1, 1000, *any_values_but(1)]:
                self.check(one_and_one, (machines, 3, value), value)


class Texts(unittest.TestCase):
    def check_wrong(self, text, line):
        with self.assertRaises(InvalidText) as caught:
            read_rows(text)
        self.assertIs(caught.exception.text, text)
        self.assertIs(type(caught.exception.line), int)
        self.assertEqual(caught.exception.line, line, text)

    def test_there_and_back(self):
        rng = dice(1)
        for _ in range(60):
            schedule = some_schedule(rng, None, None, rng.randint(1, 8))
            text = row_text(schedule)
            wanted = ["".join(f" {way}{portion}.{stage}" for way, portion, stage in row)[1:] + "\n"
                      for row in schedule.rows]
            self.assertEqual(text, "".join(wanted))
            self.assertEqual(read_rows(text), schedule.rows)
            self.assertTrue(all_tuples(read_rows(text)))
            self.assertEqual(Schedule(schedule.machines, schedule.stages, schedule.portions,
                                      as_lists(read_rows(text))), schedule)

    def test_names_of_the_arguments(self):
        schedule = one_and_one(1, 1, 1)
        self.assertEqual(row_text(schedule=schedule), "f0.0 b0.0\n")
        self.assertEqual(read_rows(text="f0.0 b0.0\n"), schedule.rows)

    def test_rows_of_no_schedule(self):
        self.assertEqual(read_rows("f99.10\nf0.0 f0.0\nb5.99\nb9.9\nf1.2\n"),
                         ((("f", 99, 10),), (("f", 0, 0), ("f", 0, 0)), (("b", 5, 99),), (("b", 9, 9),),
                          (("f", 1, 2),)))

    def test_no_text(self):
        for value in [value for value in ANY_VALUES if not isinstance(value, str)] + ["", b"f0.0\n", 0]:
            self.check_wrong(value, 0)

    def test_wrong_deeds(self):
        for word in ("", "f", "0.0", "f.", "f0", "f0.", "f.0", "g0.0", "F0.0", "ff0.0", "f0.0.0", "f00.0", "f0.00",
                     "f01.0", "f0.01", "f100.0", "f0.100", "f-1.0", "f+1.0", "f0.-1", "f 0.0", "f0 .0", "f0,0",
                     "f0..0", "f1_0.0", "f\u0661.0", "f0.\u00b2", "f0.0\r", "f0.0\t", " f0.0", "f0.0 ", "f0.0  b0.0",
                     "f0.0,b0.0", "f0.0b0.0", "f0x0.0", "\x0c", "f0.0\u2028", "('f', 0, 0)", "None"):
            self.check_wrong(word + "\n", 0)
            self.check_wrong("f0.0 b0.0\n" + word + "\n", 1)
            self.check_wrong("f0.0\nf0.0\n" + word + "\nf0.0\n", 2)
            self.check_wrong("f0.0\nf0.0 " + word + " b0.0\nf0.0\n" if word != "" else "\n", 1 if word else 0)

    def test_the_first_wrong_line(self):
        self.check_wrong("f0.0\nx\ny\nz", 1)
        self.check_wrong("x", 0)
        self.check_wrong("f0.0\n\nf0.0\n\n", 1)

    def test_what_stands_after_the_last_line_feed(self):
        self.check_wrong("f0.0", 0)
        self.check_wrong("f0.0\nf0.0", 1)
        self.check_wrong("f0.0\nb0.0\n ", 2)
        self.check_wrong("f0.0\r\n", 0)
        self.check_wrong("f0.0\n\n", 1)
        self.check_wrong("\n", 0)


if __name__ == "__main__":
    unittest.main()
