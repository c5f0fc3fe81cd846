"""Spans: tuples (low, high) of rationals, None for an end without a bound."""

from clockverdict.errors import EmptySpan
from clockverdict.exact import HALF, add, compare, distance, is_rational, larger, multiply
from clockverdict.exact import negate, smaller, subtract


def is_span(value):
    """True if value is a tuple of two ends, rationals or None, the low one not above the high one."""
    if not isinstance(value, tuple) or len(value) != 2:
        return False
    low, high = value
    if low is not None and not is_rational(low):
        return False
    if high is not None and not is_rational(high):
        return False
    return low is None or high is None or compare(low, high) <= 0


def make_span(low=None, high=None):
    """The span with these ends."""
    if low is not None and high is not None and compare(low, high) > 0:
        raise EmptySpan(low, high)
    return (low, high)


def span_holds(span, t):
    """True if t is in the span."""
    low, high = span
    if low is not None and compare(t, low) < 0:
        return False
    return high is None or compare(t, high) <= 0


def width_of(span):
    """high minus low, or None if an end is None."""
    low, high = span
    if low is None or high is None:
        return None
    return subtract(high, low)


def middle_of(span):
    """Half the sum of the ends, or None if an end is None."""
    low, high = span
    if low is None or high is None:
        return None
    return multiply(add(low, high), HALF)


def far_end(span, t):
    """The distance from t to the end that is farther away, or None if an end is None."""
    low, high = span
    if low is None or high is None:
        return None
    return larger(distance(t, low), distance(t, high))


def _higher_low(a, b):
    if a is None:
        return b
    return a if b is None else larger(a, b)


def _lower_high(a, b):
    if a is None:
        return b
    return a if b is None else smaller(a, b)


def meet(a, b):
    """The span of all times that are in both spans, or None."""
    low = _higher_low(a[0], b[0])
    high = _lower_high(a[1], b[1])
    if low is not None and high is not None and compare(low, high) > 0:
        return None
    return (low, high)


def meet_all(*spans):
    """The span of all times that are in each of the spans, or None."""
    common = (None, None)
    for span in spans:
        common = meet(common, span)
        if common is None:
            return None
    return common


def hull(a, b):
    """The least span that holds both spans."""
    low = None if a[0] is None or b[0] is None else smaller(a[0], b[0])
    high = None if a[1] is None or b[1] is None else larger(a[1], b[1])
    return (low, high)


def _moved(end, by):
    return None if end is None else add(end, by)


def shift(span, by):
    """Both ends plus by."""
    return (_moved(span[0], by), _moved(span[1], by))


def widen(span, by):
    """Low minus by and high plus by."""
    return make_span(_moved(span[0], negate(by)), _moved(span[1], by))
