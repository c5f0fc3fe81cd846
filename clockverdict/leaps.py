"""Leap tables: days of unequal length, the labels of times, and readings that spread a leap."""

from clockverdict.courses import tidy
from clockverdict.days import date_text, find_day, number_in
from clockverdict.errors import BadBound, BadLabel, BadLeap, BadNumber, NoSuchSecond
from clockverdict.exact import ONE, ZERO, add, compare, floor_of, multiply, rational, rational_text, read_rational
from clockverdict.exact import subtract

_LEAST_WINDOW = 2
_GREATEST_WINDOW = 43200

_DATE_SIGNS = 10
_LEAP_SECOND = "23:59:60"


def _require_window(window):
    if window < _LEAST_WINDOW or window > _GREATEST_WINDOW:
        raise BadBound(window)


class Leaps:
    """A leap table; it never changes."""

    DAY = 86400

    def __init__(self, rows=()):
        self._kinds = {}
        for day, kind in rows:
            if kind not in (1, -1) or day in self._kinds:
                raise BadLeap(day)
            self._kinds[day] = kind
        self._rows = tuple(sorted(rows))

    def __iter__(self):
        return iter(self._rows)

    def length_of(self, day):
        """The length of a day in seconds."""
        return Leaps.DAY + self._kind_of(day)

    def start_of(self, day):
        """The time at which a day starts, as an integer."""
        passed = sum([kind for other, kind in self._rows if 0 <= other < day])
        ahead = sum([kind for other, kind in self._rows if day <= other < 0])
        return Leaps.DAY * day + passed - ahead

    def label_of(self, t):
        """The label (day, second, part) of a time."""
        whole = floor_of(t)
        day = self._day_at(whole)
        return (day, whole - self.start_of(day), subtract(t, (whole, 1)))

    def time_of(self, day, second, part=(0, 1)):
        """The time with this label."""
        if second < 0 or second >= self.length_of(day):
            raise NoSuchSecond(day, second)
        if compare(part, ZERO) < 0 or compare(part, ONE) >= 0:
            raise BadBound(part)
        return add((self.start_of(day) + second, 1), part)

    def smeared(self, t, *, window=7200):
        """The smeared reading of a time."""
        _require_window(window)
        day = self._day_at(floor_of(t))
        plain = self.length_of(day) - window
        over = subtract(t, (self.start_of(day) + plain, 1))
        if compare(over, ZERO) > 0:
            over = multiply(over, self._smear_rate(day, window))
        return add((Leaps.DAY * day + plain, 1), over)

    def unsmeared(self, reading, *, window=7200):
        """The time with this smeared reading."""
        _require_window(window)
        day = floor_of(reading) // Leaps.DAY
        plain = self.length_of(day) - window
        over = subtract(reading, (Leaps.DAY * day + plain, 1))
        if compare(over, ZERO) > 0:
            over = multiply(over, rational(window, window - self._kind_of(day)))
        return add((self.start_of(day) + plain, 1), over)

    def smear_course(self, first, last, *, window=7200):
        """The tidy course of the smeared reading from the start of one day to the end of another."""
        if last < first:
            raise BadBound(last)
        _require_window(window)
        pieces = []
        for day in range(first, last + 1):
            start = self.start_of(day)
            shown = Leaps.DAY * day
            plain = self.length_of(day) - window
            pieces.append(((start, 1), (shown, 1), ONE))
            pieces.append(((start + plain, 1), (shown + plain, 1), self._smear_rate(day, window)))
        pieces.append(((self.start_of(last + 1), 1), (Leaps.DAY * (last + 1), 1), ONE))
        return tidy(pieces)

    def _kind_of(self, day):
        """The kind of the day's leap, 0 if it has none."""
        return self._kinds.get(day, 0)

    def _smear_rate(self, day, window):
        """What the smeared reading advances per second at the end of a day."""
        return rational(window - self._kind_of(day), window)

    def _day_at(self, whole):
        """The day on which a whole second falls."""
        day = whole // Leaps.DAY
        while self.start_of(day) > whole:
            day = day - 1
        while self.start_of(day + 1) <= whole:
            day = day + 1
        return day


def _second_text(second):
    """The time of day of a second."""
    if second == Leaps.DAY:
        return _LEAP_SECOND
    hours, rest = divmod(second, 3600)
    minutes, seconds = divmod(rest, 60)
    return f"{hours:02d}:{minutes:02d}:{seconds:02d}"


def label_text(leaps, t):
    """The label text of a time."""
    day, second, part = leaps.label_of(t)
    text = f"{date_text(day)} {_second_text(second)}"
    return text if part == ZERO else f"{text}+{rational_text(part)}"


def _second_in(text):
    """The second with this time of day, of a day with or without a leap, or None."""
    hours, minutes, seconds = number_in(text[:2]), number_in(text[3:5]), number_in(text[6:])
    if hours is None or minutes is None or seconds is None:
        return None
    second = 3600 * hours + 60 * minutes + seconds
    # A text such as 12:60:00 or 24:00:00 is not the one of its second.
    return second if _second_text(second) == text else None


def _part_in(text):
    """The part that stands behind the time of day, or None."""
    if text == "":
        return ZERO
    if not text.startswith("+"):
        return None
    try:
        part = read_rational(text[1:])
    except BadNumber:
        return None
    return part if compare(part, ZERO) > 0 and compare(part, ONE) < 0 else None


def read_label(leaps, text):
    """The time with this label text."""
    behind = _DATE_SIGNS + 1 + len(_LEAP_SECOND)
    day = find_day(text[:_DATE_SIGNS])
    second = _second_in(text[_DATE_SIGNS + 1:behind])
    part = _part_in(text[behind:])
    if day is None or second is None or part is None or text[_DATE_SIGNS] != " ":
        raise BadLabel(text)
    if second >= leaps.length_of(day):
        raise BadLabel(text)
    return leaps.time_of(day, second, part)
