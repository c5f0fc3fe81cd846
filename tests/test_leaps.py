"""Points 52 to 55, point 10 for the part of a label text, and the interface's leaps.py."""

import random
import unittest
from fractions import Fraction

from clockverdict.courses import is_course, jumps, shown_at, tidy
from clockverdict.days import date_text, day_of
from clockverdict.errors import BadBound, BadLabel, BadLeap, NoSuchSecond
from clockverdict.leaps import Leaps, label_text, read_label
from tests.support import caught, fraction, rat, unchanged

DAY = 86400
FIRST, LAST = day_of(1, 1, 1), day_of(9999, 12, 31)

TABLES = [
    [],
    [(0, 1)],
    [(0, -1)],
    [(-1, 1)],
    [(-1, -1)],
    [(0, 1), (1, 1), (2, -1), (5, 1)],
    [(-3, 1), (-2, -1), (-1, 1), (0, -1), (1, 1)],
    [(FIRST, 1), (LAST, -1), (0, 1)],
    [(FIRST, -1), (FIRST + 1, -1), (LAST - 1, 1), (LAST, 1)],
    [(day, 1) for day in range(-6, 6)],
    [(day, -1) for day in range(-6, 6)],
]


# Points 52 to 54, written apart from the program.

def plain_length(rows, day):
    return DAY + dict(rows).get(day, 0)


def plain_start(rows, day):
    """By going over all days between day 0 and this one, where a leap is among them."""
    many = [(other, kind) for other, kind in rows if 0 <= other < day or day <= other < 0]
    return DAY * day + (1 if day > 0 else -1) * sum([kind for _, kind in many])


def plain_day(rows, t):
    day = int(t // DAY) - 3
    while plain_start(rows, day + 1) <= t:
        day += 1
    return day


def plain_smeared(rows, t, window):
    day = plain_day(rows, t)
    u, length, k = t - plain_start(rows, day), plain_length(rows, day), dict(rows).get(day, 0)
    if u <= length - window:
        return DAY * day + u
    return DAY * day + (length - window) + (u - (length - window)) * Fraction(window - k, window)


def days_around(rows):
    days = {0, 1, -1, 59, -800, 3000, FIRST, LAST}
    for day, _ in rows:
        days |= {other for other in range(day - 2, day + 3) if FIRST <= other <= LAST}
    return sorted(days)


def times_of_day(rng, rows, day, window):
    """Times at the borders of a day and of its window, and within them."""
    start, length = plain_start(rows, day), plain_length(rows, day)
    inner = [Fraction(0), Fraction(1, 3), Fraction(1), Fraction(length - window), length - window + Fraction(1, 7),
             length - window - Fraction(1, 7), length - Fraction(window, 2), Fraction(length - 1),
             length - Fraction(1, 999999999)]
    inner += [Fraction(rng.randrange(length * 6), 6) for _ in range(3)]
    return [start + u for u in inner]


class TableTest(unittest.TestCase):
    def test_the_length_of_a_day_as_a_class_value(self):
        self.assertEqual(Leaps.DAY, 86400)
        self.assertEqual(Leaps([(0, 1)]).DAY, 86400)

    def test_iteration_is_ascending_whatever_the_order(self):
        rng = random.Random(52)
        for rows in TABLES:
            for _ in range(3):
                mixed = rng.sample(rows, len(rows))
                for given in (mixed, tuple(mixed)):
                    leaps = Leaps(given)
                    self.assertEqual(list(leaps), sorted(rows))
                    self.assertEqual([row for row in leaps], sorted(rows))
        self.assertEqual(list(Leaps()), [])
        self.assertEqual(list(Leaps(rows=((3, 1), (1, -1)))), [(1, -1), (3, 1)])

    def test_later_changes_of_the_list_have_no_effect(self):
        rows = [(0, 1), (-4, -1)]
        leaps = Leaps(rows)
        rows.append((9, 1))
        rows[0] = (0, -1)
        del rows[1]
        self.assertEqual(list(leaps), [(-4, -1), (0, 1)])
        self.assertEqual(leaps.length_of(0), DAY + 1)
        found = list(leaps)
        found.clear()
        self.assertEqual(list(leaps), [(-4, -1), (0, 1)])

    def test_wrong_leaps_the_first_in_the_list_counting(self):
        for rows, day in [([(5, 0)], 5), ([(5, 2)], 5), ([(5, -2)], 5), ([(-5, 10 ** 12 - 1)], -5),
                          ([(5, 1), (5, 1)], 5), ([(5, 1), (5, -1)], 5), ([(0, 1), (0, 7)], 0),
                          ([(9, 1), (4, 0), (9, 1)], 4), ([(9, 1), (9, 1), (4, 0)], 9),
                          ([(9, 1), (4, 1), (4, -1), (9, -1)], 4), ([(9, 1), (4, 1), (9, -1), (4, -1)], 9),
                          ([(9, 1), (3, 2), (1, 0)], 3)]:
            self.assertEqual(caught(self, BadLeap, Leaps, rows).day, day)
            self.assertEqual(caught(self, BadLeap, Leaps, tuple(rows)).day, day)

    def test_lengths_and_starts(self):
        for rows in TABLES:
            leaps = Leaps(rows)
            for day in days_around(rows):
                self.assertEqual(leaps.length_of(day), plain_length(rows, day))
                self.assertEqual(leaps.start_of(day), plain_start(rows, day))
                self.assertEqual(leaps.start_of(day + 1) - leaps.start_of(day), leaps.length_of(day))
            self.assertEqual(leaps.start_of(0), 0)
            self.assertIs(type(leaps.start_of(3)), int)
            self.assertIs(type(leaps.length_of(3)), int)

    def test_days_below_0_end_where_the_next_one_starts(self):
        leaps = Leaps([(-1, 1), (-2, -1)])
        self.assertEqual([leaps.start_of(day) for day in (1, 0, -1, -2, -3)],
                         [DAY, 0, -DAY - 1, -2 * DAY, -3 * DAY])
        leaps = Leaps([(0, 1), (1, -1)])
        self.assertEqual([leaps.start_of(day) for day in (-1, 0, 1, 2)], [-DAY, 0, DAY + 1, 2 * DAY])


class LabelsTest(unittest.TestCase):
    def test_labels_and_times_against_each_other(self):
        rng = random.Random(53)
        for rows in TABLES:
            leaps = Leaps(rows)
            for day in days_around(rows):
                for t in times_of_day(rng, rows, day, 7200):
                    passed = t - plain_start(rows, day)
                    label = (day, int(passed // 1), rat(passed % 1))
                    self.assertEqual(leaps.label_of(rat(t)), label)
                    self.assertEqual(leaps.time_of(*label), rat(t))

    def test_a_day_holds_its_start_and_not_its_end(self):
        leaps = Leaps([(0, 1), (1, -1)])
        self.assertEqual(leaps.label_of((86400, 1)), (0, 86400, (0, 1)))
        self.assertEqual(leaps.label_of((172801, 2)), (0, 86400, (1, 2)))
        self.assertEqual(leaps.label_of((86401, 1)), (1, 0, (0, 1)))
        self.assertEqual(leaps.label_of((2 * DAY - 1, 1)), (1, 86398, (0, 1)))
        self.assertEqual(leaps.label_of((2 * DAY, 1)), (2, 0, (0, 1)))
        self.assertEqual(leaps.label_of((-1, 3)), (-1, 86399, (2, 3)))

    def test_seconds_that_a_day_does_not_have(self):
        leaps = Leaps([(0, 1), (1, -1), (-7, 1)])
        for day, length in [(0, 86401), (1, 86399), (2, 86400), (-7, 86401), (-1, 86400)]:
            for second in (-1, -86400, length, length + 1, 10 ** 12 - 1, 1 - 10 ** 12):
                error = caught(self, NoSuchSecond, leaps.time_of, day, second)
                self.assertEqual((error.day, error.second), (day, second))
            self.assertEqual(leaps.time_of(day, length - 1), (leaps.start_of(day) + length - 1, 1))
            self.assertEqual(leaps.time_of(day, 0), (leaps.start_of(day), 1))

    def test_parts_out_of_range_behind_the_second(self):
        leaps = Leaps([(0, 1)])
        for part in [(-1, 2), (1, 1), (3, 2), (-1, 999999999), (10 ** 12 - 1, 1)]:
            self.assertEqual(caught(self, BadBound, leaps.time_of, 0, 5, part).value, part)
            error = caught(self, NoSuchSecond, leaps.time_of, 0, 86401, part)
            self.assertEqual((error.day, error.second), (0, 86401))
        self.assertEqual(leaps.time_of(0, 5), leaps.time_of(0, 5, (0, 1)))
        self.assertEqual(leaps.time_of(0, 5, part=(1, 2)), (11, 2))


class SmearTest(unittest.TestCase):
    def test_smeared_readings(self):
        rng = random.Random(54)
        for rows in TABLES:
            leaps = Leaps(rows)
            for window in (2, 3, 7200, 43199, 43200):
                for day in days_around(rows):
                    for t in times_of_day(rng, rows, day, window):
                        shown = leaps.smeared(rat(t), window=window)
                        self.assertEqual(shown, rat(plain_smeared(rows, t, window)))
                        self.assertEqual(leaps.unsmeared(shown, window=window), rat(t))
                    start = leaps.start_of(day)
                    self.assertEqual(leaps.smeared((start, 1), window=window), (DAY * day, 1))
                    self.assertEqual(leaps.unsmeared((DAY * day, 1), window=window), (start, 1))

    def test_the_window_of_7200_is_the_default(self):
        leaps = Leaps([(0, 1)])
        for t in [(5, 1), (79201, 1), (80000, 1), (86400, 1), (86401, 1)]:
            self.assertEqual(leaps.smeared(t), leaps.smeared(t, window=7200))
            self.assertEqual(leaps.unsmeared(t), leaps.unsmeared(t, window=7200))
        self.assertEqual(leaps.smear_course(0, 1), leaps.smear_course(0, 1, window=7200))

    def test_both_kinds_at_the_borders_of_the_window(self):
        leaps = Leaps([(0, 1), (1, -1)])
        self.assertEqual(leaps.smeared((79201, 1)), (79201, 1))
        self.assertEqual(leaps.smeared((82801, 1)), (79201 * 2 + 7199, 2))
        self.assertEqual(leaps.smeared((86401, 1)), (86400, 1))
        self.assertEqual(leaps.smeared((86401 + 79199, 1)), (86400 + 79199, 1))
        self.assertEqual(leaps.smeared((86401 + 82799, 1)), ((86400 + 79199) * 2 + 7201, 2))
        self.assertEqual(leaps.smeared((86401 + 86399, 1)), (2 * 86400, 1))
        self.assertEqual(leaps.smeared((86400, 1), window=2), (172799, 2))
        self.assertEqual(leaps.unsmeared((172799, 2), window=2), (86400, 1))

    def test_every_reading_is_the_smeared_reading_of_one_time(self):
        rng = random.Random(541)
        for rows in TABLES:
            leaps = Leaps(rows)
            for _ in range(60):
                day = rng.choice(days_around(rows))
                reading = rat(DAY * day + Fraction(rng.randrange(DAY * 12), 12))
                window = rng.choice([2, 5, 7200, 43200])
                self.assertEqual(leaps.smeared(leaps.unsmeared(reading, window=window), window=window), reading)

    def test_windows_out_of_range(self):
        leaps = Leaps([(0, 1)])
        for window in (1, 0, -1, -7200, 43201, 86400, 10 ** 12 - 1):
            self.assertEqual(caught(self, BadBound, leaps.smeared, (5, 1), window=window).value, window)
            self.assertEqual(caught(self, BadBound, leaps.unsmeared, (5, 1), window=window).value, window)
            self.assertEqual(caught(self, BadBound, leaps.smear_course, 0, 3, window=window).value, window)

    def test_smear_course_against_smeared(self):
        rng = random.Random(542)
        for rows in TABLES:
            leaps = Leaps(rows)
            for _ in range(6):
                first = rng.choice([day for day in days_around(rows) if day <= LAST - 7])
                last = first + rng.randint(0, 7)
                window = rng.choice([2, 7200, 43200])
                course = leaps.smear_course(first, last, window=window)
                self.assertTrue(is_course(course))
                self.assertEqual(tidy(course), course)
                self.assertEqual(jumps(course), [])
                self.assertEqual(course[0][:2], ((leaps.start_of(first), 1), (DAY * first, 1)))
                for day in range(first, last + 1):
                    for t in times_of_day(rng, rows, day, window):
                        self.assertEqual(shown_at(course, rat(t)), leaps.smeared(rat(t), window=window))
                end = leaps.start_of(last + 1)
                for x in (0, 1, 50000, 10 ** 6):
                    self.assertEqual(shown_at(course, (end + x, 1)), (DAY * (last + 1) + x, 1))

    def test_pieces_of_smear_courses(self):
        leaps = Leaps([(0, 1), (1, 1), (3, -1)])
        self.assertEqual(leaps.smear_course(0, 0), [((0, 1), (0, 1), (1, 1)), ((79201, 1), (79201, 1), (7199, 7200)),
                                                    ((86401, 1), (86400, 1), (1, 1))])
        self.assertEqual(leaps.smear_course(2, 2), [((172802, 1), (172800, 1), (1, 1))])
        self.assertEqual(leaps.smear_course(3, 3, window=2)[1], ((259202 + 86397, 1), (259200 + 86397, 1), (3, 2)))
        self.assertEqual(len(leaps.smear_course(-30, 30)), 7)
        self.assertEqual(leaps.smear_course(LAST, LAST), [((leaps.start_of(LAST), 1), (DAY * LAST, 1), (1, 1))])
        self.assertEqual(leaps.smear_course(FIRST, FIRST), [((DAY * FIRST, 1), (DAY * FIRST, 1), (1, 1))])

    def test_the_last_day_stands_ahead_of_the_window(self):
        leaps = Leaps([(0, 1)])
        for first, last in [(0, -1), (5, 4), (-3, -9), (10, -10)]:
            for window in (7200, 1, 43201):
                self.assertEqual(caught(self, BadBound, leaps.smear_course, first, last, window=window).value, last)


class LabelTextTest(unittest.TestCase):
    def check(self, leaps, t, text):
        self.assertEqual(label_text(leaps, t), text)
        self.assertEqual(read_label(leaps, text), t)

    def test_the_form(self):
        leaps = Leaps()
        start = DAY * day_of(2000, 2, 29)
        self.check(leaps, (start + 7 * 3600 + 5 * 60 + 9, 1), "2000-02-29 07:05:09")
        self.check(leaps, (-1, 2), "1999-12-31 23:59:59+1/2")
        self.check(leaps, (0, 1), "2000-01-01 00:00:00")
        self.check(leaps, (1, 3), "2000-01-01 00:00:00+1/3")
        self.check(leaps, (DAY * FIRST, 1), "0001-01-01 00:00:00")
        self.check(leaps, (DAY * LAST + DAY - 1, 1), "9999-12-31 23:59:59")
        self.check(leaps, (12 * 3600 + 34 * 60 + 56, 1), "2000-01-01 12:34:56")

    def test_the_second_86400(self):
        leaps = Leaps([(0, 1), (-366, 1), (LAST, 1)])
        self.check(leaps, (86400, 1), "2000-01-01 23:59:60")
        self.check(leaps, (86399, 1), "2000-01-01 23:59:59")
        self.check(leaps, (172801, 2), "2000-01-01 23:59:60+1/2")
        self.check(leaps, (86401, 1), "2000-01-02 00:00:00")
        self.check(leaps, (leaps.start_of(LAST) + 86400, 1), "9999-12-31 23:59:60")
        for text in ["2000-01-02 23:59:60", "1999-12-31 23:59:60", "2000-01-02 23:59:60+1/2"]:
            self.assertEqual(caught(self, BadLabel, read_label, leaps, text).text, text)
        for text in ["2000-01-01 24:00:00", "2000-01-01 23:58:60", "2000-01-01 22:59:60", "2000-01-01 23:59:61",
                     "2000-01-01 00:00:60", "2000-01-01 23:60:00"]:
            self.assertEqual(caught(self, BadLabel, read_label, leaps, text).text, text)

    def test_a_removed_second(self):
        leaps = Leaps([(0, -1)])
        self.check(leaps, (86398, 1), "2000-01-01 23:59:58")
        self.check(leaps, (86399 * 3 - 1, 3), "2000-01-01 23:59:58+2/3")
        self.check(leaps, (86399, 1), "2000-01-02 00:00:00")
        for text in ["2000-01-01 23:59:59", "2000-01-01 23:59:59+1/2", "2000-01-01 23:59:60"]:
            self.assertEqual(caught(self, BadLabel, read_label, leaps, text).text, text)
        self.check(leaps, (86399 + 86399, 1), "2000-01-02 23:59:59")

    def test_parts_of_nine_and_of_ten_digits(self):
        leaps = Leaps()
        self.check(leaps, (1, 999999999), "2000-01-01 00:00:00+1/999999999")
        self.check(leaps, (999999998, 999999999), "2000-01-01 00:00:00+999999998/999999999")
        text = label_text(leaps, (1, 1000000000))
        self.assertEqual(text, "2000-01-01 00:00:00+1/1000000000")
        self.assertEqual(caught(self, BadLabel, read_label, leaps, text).text, text)
        text = label_text(leaps, (1999999999, 2000000000))
        self.assertEqual(text, "2000-01-01 00:00:00+1999999999/2000000000")
        self.assertEqual(caught(self, BadLabel, read_label, leaps, text).text, text)

    def test_texts_with_one_thing_wrong(self):
        leaps = Leaps([(0, 1)])
        wrong = ["", " ", "+", "2000-01-01", "2000-01-01 ", "2000-01-01 00:00", "2000-01-01 00:00:", "2000-01-01 00:00:0",
                 "2000-01-01 0:00:00", "2000-01-01 00:0:00", "2000-01-01 00:00:000", "2000-01-01  00:00:00",
                 "2000-01-0100:00:00", "2000-01-01T00:00:00", "2000-01-01+00:00:00", "2000-01-01 00-00-00",
                 "2000-01-01 00:00-00", "2000-01-01 00-00:00", "2000-01-01 00:00:00 ", " 2000-01-01 00:00:00",
                 "2000-01-01 24:00:00", "2000-01-01 99:00:00", "2000-01-01 00:60:00", "2000-01-01 00:00:60",
                 "2000-01-01 -1:00:00", "2000-01-01 +1:00:00", "2000-01-01 00:+1:00", "2000-01-01 00:00:+1",
                 "2000-01-01 x0:00:00", "2000-01-01 00:0x:00", "2000-01-01 00:00:x0", "2000-01-01 1_:00:00",
                 "2000-01-01 00: 1:00", "2000-01-01 000000", "2000-01-01 00:00:00+", "2000-01-01 00:00:00+0",
                 "2000-01-01 00:00:00+1", "2000-01-01 00:00:00+0/1", "2000-01-01 00:00:00+2/4", "2000-01-01 00:00:00+3/2",
                 "2000-01-01 00:00:00+2/1", "2000-01-01 00:00:00+-1/2", "2000-01-01 00:00:00-1/2", "2000-01-01 00:00:001/2",
                 "2000-01-01 00:00:00 1/2", "2000-01-01 00:00:00+ 1/2", "2000-01-01 00:00:00++1/2",
                 "2000-01-01 00:00:00+01/2", "2000-01-01 00:00:00+1/02", "2000-01-01 00:00:00+1/0",
                 "2000-01-01 00:00:00+1/2 ", "2000-01-01 00:00:00+1/2/3", "2000-01-01 00:00:00+1.5", "2000-01-01 00:00:00+/2",
                 "2000-01-01 00:00:00+1/", "2000-01-01 00:00:00+x/2", "2000-01-01 00:00:00+1//2",
                 "2000-02-30 00:00:00", "2001-02-29 00:00:00", "0000-01-01 00:00:00", "2000-13-01 00:00:00",
                 "2000-00-01 00:00:00", "2000-01-00 00:00:00", "10000-01-01 00:00:00", "200-01-01 00:00:00",
                 "-001-01-01 00:00:00", "0" * 200, "~" * 200, ("2000-01-01 00:00:00+1/" + "3" * 200)[:200]]
        for text in wrong:
            self.assertEqual(caught(self, BadLabel, read_label, leaps, text).text, text)

    def test_one_sign_wrong_missing_or_too_many_at_each_place(self):
        rng = random.Random(55)
        leaps = Leaps([(0, 1), (1, -1)])
        for t in [(86400, 1), (172801, 2), (86401 + 86398, 1), (-7, 3), (10 ** 9 + 1, 2)]:
            text = label_text(leaps, t)
            for place in range(len(text) + 1):
                others = [text[:place] + text[place + 1:]]
                for sign in "0569x -/:+":
                    others += [text[:place] + sign + text[place + 1:], text[:place] + sign + text[place:]]
                for other in rng.sample(others, len(others)):
                    # Only a text that is written back as it stands is read.
                    try:
                        self.assertEqual(label_text(leaps, read_label(leaps, other)), other)
                    except BadLabel as error:
                        self.assertEqual(error.text, other)

    def test_texts_and_times_against_each_other(self):
        rng = random.Random(551)
        for rows in TABLES:
            leaps = Leaps(rows)
            for day in days_around(rows):
                for t in times_of_day(rng, rows, day, 7200):
                    text = label_text(leaps, rat(t))
                    self.assertEqual(text[:11], date_text(day) + " ")
                    passed = t - plain_start(rows, day)
                    second, part = int(passed // 1), passed % 1
                    plain = "23:59:60" if second == DAY else "%02d:%02d:%02d" % (
                        second // 3600, second // 60 % 60, second % 60)
                    self.assertEqual(text[11:], plain + ("+" + str(part) if part else ""))
                    self.assertEqual(read_label(leaps, text), rat(t))

    def test_the_calls_change_nothing(self):
        leaps = Leaps([(0, 1), (1, -1)])
        self.assertEqual(unchanged(self, leaps.smear_course, -1, 1)[0], ((-DAY, 1), (-DAY, 1), (1, 1)))
        course = leaps.smear_course(-1, 1)
        course.clear()
        self.assertEqual(len(leaps.smear_course(-1, 1)), 5)
        self.assertEqual(leaps.label_of((5, 2)), leaps.label_of((5, 2)))
        self.assertEqual(fraction(leaps.smeared((86400, 1))), plain_smeared([(0, 1), (1, -1)], 86400, 7200))


if __name__ == "__main__":
    unittest.main()
