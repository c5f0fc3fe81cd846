"""Days, counted from the 1st of January 2000, and the dates of them."""

from clockverdict.errors import BadDate, BadLabel
from clockverdict.exact import is_whole

_LAST_YEAR = 9999
_MONTHS = (31, 28, 31, 30, 31, 30, 31, 31, 30, 31, 30, 31)
_DIGITS = "0123456789"

# The days from the 1st of January of the year 1 to that of 2000, and those of 400 years.
_DAYS_TO_2000 = 730119
_DAYS_OF_400_YEARS = 146097


def _is_leap(year):
    return year % 4 == 0 and (year % 100 != 0 or year % 400 == 0)


def _days_of_month(year, month):
    return 29 if month == 2 and _is_leap(year) else _MONTHS[month - 1]


def is_date(value):
    """True if value is a tuple (year, month, day) of a date."""
    if not isinstance(value, tuple) or len(value) != 3:
        return False
    if not all([is_whole(part) for part in value]):
        return False
    year, month, day = value
    if not 1 <= year <= _LAST_YEAR or not 1 <= month <= 12:
        return False
    return 1 <= day <= _days_of_month(year, month)


def is_leap_year(value):
    """True if value is an integer from 1 to 9999 that is a leap year."""
    return is_whole(value) and 1 <= value <= _LAST_YEAR and _is_leap(value)


def _days_ahead_of(year):
    """The number of days from the 1st of January of the year 1 to that of the year."""
    passed = year - 1
    return 365 * passed + passed // 4 - passed // 100 + passed // 400


def day_of(year, month, day):
    """The day of a date."""
    if not is_date((year, month, day)):
        raise BadDate((year, month, day))
    months = [_days_of_month(year, earlier) for earlier in range(1, month)]
    return _days_ahead_of(year) + sum(months) + day - 1 - _DAYS_TO_2000


def date_of(day):
    """The date of a day."""
    passed = day + _DAYS_TO_2000
    # Of years of middle length this one would hold the day; the right one is at most one away.
    year = 400 * passed // _DAYS_OF_400_YEARS + 1
    while _days_ahead_of(year) > passed:
        year = year - 1
    while _days_ahead_of(year + 1) <= passed:
        year = year + 1
    left = passed - _days_ahead_of(year)
    month = 1
    while left >= _days_of_month(year, month):
        left = left - _days_of_month(year, month)
        month = month + 1
    return (year, month, left + 1)


def date_text(day):
    """The date of a day as a string."""
    year, month, day_of_month = date_of(day)
    return f"{year:04d}-{month:02d}-{day_of_month:02d}"


def number_in(text):
    """The number that a row of digits tells, or None for any other text."""
    if not text or not all([sign in _DIGITS for sign in text]):
        return None
    return int(text)


def find_day(text):
    """The day with this date text, or None."""
    if len(text) != 10 or text[4] != "-" or text[7] != "-":
        return None
    date = (number_in(text[:4]), number_in(text[5:7]), number_in(text[8:]))
    return day_of(*date) if is_date(date) else None


def read_date(text):
    """The day with this date text."""
    day = find_day(text)
    if day is None:
        raise BadLabel(text)
    return day
