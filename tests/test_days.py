"""Point 51, and the interface's days.py."""

import datetime
import random
import unittest

from clockverdict.days import date_of, date_text, day_of, is_date, is_leap_year, read_date
from clockverdict.errors import BadDate, BadLabel
from tests.support import BIG, ODD_VALUES, caught, check_judge, spoiled, unchanged

START = datetime.date(2000, 1, 1)
FIRST = (datetime.date.min - START).days
LAST = (datetime.date.max - START).days

LENGTHS = [31, 28, 31, 30, 31, 30, 31, 31, 30, 31, 30, 31]
YEARS = [1, 2, 3, 4, 5, 99, 100, 101, 399, 400, 401, 1582, 1699, 1700, 1899, 1900, 1901, 1996, 1999, 2000, 2001, 2004,
         2023, 2024, 2100, 2400, 9995, 9996, 9998, 9999]


def plain_leap(value):
    return type(value) is int and 1 <= value <= 9999 and (value % 400 == 0 or (value % 4 == 0 and value % 100 != 0))


def plain_date(value):
    if type(value) is not tuple or len(value) != 3 or not all([type(part) is int for part in value]):
        return False
    year, month, day = value
    if not 1 <= year <= 9999 or not 1 <= month <= 12:
        return False
    return 1 <= day <= LENGTHS[month - 1] + (1 if month == 2 and plain_leap(year) else 0)


def some_days(rng):
    days = {FIRST, FIRST + 1, LAST - 1, LAST, -1, 0, 1, 58, 59, 60, 365, 366, -365, -366}
    for year in YEARS:
        for month in range(1, 13):
            start = (datetime.date(year, month, 1) - START).days
            days |= {day for day in (start - 1, start, start + 1) if FIRST <= day <= LAST}
    return sorted(days | {rng.randint(FIRST, LAST) for _ in range(500)})


class DaysTest(unittest.TestCase):
    def test_day_0_and_its_neighbours(self):
        self.assertEqual(day_of(2000, 1, 1), 0)
        self.assertEqual(day_of(1999, 12, 31), -1)
        self.assertEqual(day_of(2000, 1, 2), 1)
        self.assertEqual(date_of(0), (2000, 1, 1))
        self.assertEqual(date_of(-1), (1999, 12, 31))

    def test_the_first_and_the_last_day(self):
        self.assertEqual(day_of(1, 1, 1), FIRST)
        self.assertEqual(day_of(9999, 12, 31), LAST)
        self.assertEqual(date_of(FIRST), (1, 1, 1))
        self.assertEqual(date_of(LAST), (9999, 12, 31))
        self.assertEqual((date_text(FIRST), date_text(LAST)), ("0001-01-01", "9999-12-31"))

    def test_every_day_of_some_years_in_the_usual_order(self):
        for year in YEARS:
            day = (datetime.date(year, 1, 1) - START).days
            for month in range(1, 13):
                many = LENGTHS[month - 1] + (1 if month == 2 and plain_leap(year) else 0)
                for number in range(1, many + 1):
                    self.assertEqual(day_of(year, month, number), day)
                    self.assertEqual(date_of(day), (year, month, number))
                    day += 1

    def test_against_the_usual_calendar(self):
        for day in some_days(random.Random(51)):
            plain = START + datetime.timedelta(day)
            self.assertEqual(date_of(day), (plain.year, plain.month, plain.day))
            self.assertEqual(day_of(plain.year, plain.month, plain.day), day)
            self.assertEqual(date_text(day), plain.isoformat())
            self.assertEqual(read_date(plain.isoformat()), day)
            self.assertIs(is_leap_year(plain.year), plain_leap(plain.year))

    def test_leap_years(self):
        for year in [4, 96, 400, 1600, 1996, 2000, 2004, 2400, 9996]:
            self.assertIs(is_leap_year(year), True)
            self.assertEqual(day_of(year, 3, 1) - day_of(year, 2, 28), 2)
        for year in [1, 100, 200, 300, 500, 1700, 1900, 1999, 2001, 2100, 9900, 9999]:
            self.assertIs(is_leap_year(year), False)
            self.assertEqual(day_of(year, 3, 1) - day_of(year, 2, 28), 1)

    def test_what_is_no_date(self):
        wrong = [(0, 1, 1), (-4, 1, 1), (10000, 1, 1), (2000, 0, 1), (2000, 13, 1), (2000, -1, 1), (2000, 1, 0),
                 (2000, 1, 32), (2000, 1, -1), (2000, 2, 30), (2001, 2, 29), (1900, 2, 29), (2100, 2, 29),
                 (2000, 4, 31), (2000, 6, 31), (2000, 9, 31), (2000, 11, 31), (2000, 12, 32), (0, 0, 0),
                 (10 ** 12 - 1, 1, 1), (2000, 10 ** 12 - 1, 1), (2000, 1, 1 - 10 ** 12)]
        for date in wrong:
            self.assertEqual(caught(self, BadDate, day_of, *date).value, date)
            self.assertIs(is_date(date), False)


class DateTextTest(unittest.TestCase):
    def test_years_below_1000_have_four_digits(self):
        self.assertEqual(date_text(day_of(7, 8, 9)), "0007-08-09")
        self.assertEqual(date_text(day_of(78, 12, 9)), "0078-12-09")
        self.assertEqual(date_text(day_of(789, 10, 31)), "0789-10-31")
        self.assertEqual(date_text(day_of(2000, 1, 31)), "2000-01-31")
        self.assertEqual(read_date("0007-08-09"), day_of(7, 8, 9))

    def test_texts_that_are_no_dates(self):
        wrong = ["", " ", "0", "-", "--", "2000", "2000-01", "2000-01-", "2000-1-1", "2000-01-1", "2000-1-01",
                 "200-01-01", "20000-01-01", "02000-01-01", "2000-01-001", "2000-001-01", " 2000-01-01", "2000-01-01 ",
                 "+200-01-01", "-200-01-01", "2000-+1-01", "2000-01-+1", "2000--1-01", "2000-01--1", "2000-01- 1",
                 "2000 01 01", "2000/01/01", "2000-01/01", "20000101", "2000_01_01", "20_0-01-01", "2000-0_-01",
                 "0000-01-01", "2000-00-01", "2000-13-01", "2000-01-00", "2000-01-32", "2000-02-30", "1900-02-29",
                 "2001-02-29", "2000-04-31", "x000-01-01", "2000-x1-01", "2000-01-x1", "2000-01-1x", "2000-1x-01",
                 "01-01-2000", "2000-01-01\n", "2000-01-01 00:00:00", "1.00-01-01", "1e10-01-01", "0x10-01-01",
                 "9" * 200, "~" * 200, "2000-01-01" * 20]
        for text in wrong:
            self.assertEqual(caught(self, BadLabel, read_date, text).text, text)

    def test_one_sign_wrong_missing_or_too_many(self):
        text = "1996-02-29"
        for place in range(len(text)):
            self.assertEqual(caught(self, BadLabel, read_date, text[:place] + text[place + 1:]).text[:place], text[:place])
            for sign in "05x -/:+":
                for other in (text[:place] + sign + text[place + 1:], text[:place] + sign + text[place:]):
                    try:
                        plain = (datetime.date.fromisoformat(other) - START).days if len(other) == 10 else None
                    except ValueError:
                        plain = None
                    if plain is None:
                        self.assertEqual(caught(self, BadLabel, read_date, other).text, other)
                    else:
                        self.assertEqual(read_date(other), plain)

    def test_the_calls_change_nothing(self):
        self.assertEqual(unchanged(self, date_of, 60), (2000, 3, 1))
        self.assertEqual(unchanged(self, day_of, 2000, 3, 1), 60)
        self.assertEqual(unchanged(self, read_date, "2000-03-01"), 60)


class JudgesTest(unittest.TestCase):
    def test_is_date(self):
        values = list(ODD_VALUES)
        for date in [(2000, 2, 29), (1, 1, 1), (9999, 12, 31), (1900, 2, 28)]:
            values.append(date)
            values.extend(spoiled(date))
        values += [(True, 1, 1), (2000, True, 1), (2000, 1, True), (2000, 1, False), (BIG, 1, 1), (2000, BIG, 1),
                   (2000, 1, BIG), (2000, 1, -BIG), [2000, 1, 1], (2000, 1), (2000, 1, 1, 1), ("2000", 1, 1),
                   ((2000, 1), (1, 1), (1, 1)), (1900, 2, 29), (2100, 2, 29), (2400, 2, 29), (2001, 2, 29)]
        values += [(year, month, day) for year in (1900, 2000, 2023) for month in range(0, 14) for day in (0, 28, 29, 30, 31, 32)]
        counts = check_judge(self, is_date, plain_date, values)
        self.assertGreater(min(counts.values()), 50)

    def test_is_leap_year(self):
        values = list(ODD_VALUES) + list(range(-5, 410)) + YEARS + [9996, 10000, 10400, BIG, -400, 10 ** 12 - 1,
                                                                   4 * 10 ** 400, 400 * 10 ** 400, [2000], (2000,), "2000"]
        counts = check_judge(self, is_leap_year, plain_leap, values)
        self.assertGreater(min(counts.values()), 50)
        self.assertIs(is_leap_year(True), False)


if __name__ == "__main__":
    unittest.main()
