"""Covers: sets of times that are unions of finitely many spans."""

from clockverdict.exact import compare, distance, total
from clockverdict.spans import hull, meet, shift, span_holds, width_of


def _is_below(a, b):
    """True if each time of the span a is less than each time of the span b."""
    return a[1] is not None and b[0] is not None and compare(a[1], b[0]) < 0


def _with_span(spans, span):
    """The normal form of the times of one span more, for spans in normal form."""
    joined = span
    for other in spans:
        if meet(other, span) is not None:
            joined = hull(joined, other)
    below = [other for other in spans if _is_below(other, span)]
    above = [other for other in spans if _is_below(span, other)]
    return below + [joined] + above


def _nearest_in(span, t):
    """The time of the span that is nearest to t."""
    low, high = span
    if low is not None and compare(t, low) < 0:
        return low
    if high is not None and compare(t, high) > 0:
        return high
    return t


class Cover:
    """All times of some spans, which it keeps in normal form; it never changes."""

    def __init__(self, spans=()):
        kept = []
        for span in spans:
            kept = _with_span(kept, span)
        self._spans = tuple(kept)

    def __iter__(self):
        return iter(self._spans)

    @staticmethod
    def everything():
        """The cover of all times."""
        return Cover([(None, None)])

    @property
    def empty(self):
        """True if the cover holds no time."""
        return len(self._spans) == 0

    def count(self):
        """The number of the spans."""
        return len(self._spans)

    def holds(self, t):
        """True if t is in the cover."""
        return any([span_holds(span, t) for span in self._spans])

    def hull_span(self):
        """The least span that holds all times of the cover, or None."""
        if not self._spans:
            return None
        return (self._spans[0][0], self._spans[-1][1])

    def __or__(self, other):
        return Cover(list(self) + list(other))

    def __and__(self, other):
        common = []
        for span in self:
            for second in other:
                both = meet(span, second)
                if both is not None:
                    common.append(both)
        return Cover(common)

    def __add__(self, other):
        return Cover([shift(span, other) for span in self])

    def inside(self, other):
        """True if each time of the cover is in the other one."""
        # The spans of a normal form lie apart, so a span is in the other cover only within one of its spans.
        for span in self:
            if not any([meet(span, second) == span for second in other]):
                return False
        return True

    def nearest(self, t):
        """The time of the cover that is nearest to t, of two equally near ones the lesser, or None."""
        best = None
        for span in self:
            near = _nearest_in(span, t)
            if best is None or compare(distance(near, t), distance(best, t)) < 0:
                best = near
        return best

    def measure(self):
        """The sum of the widths of the spans, None if one of them has an end None."""
        widths = [width_of(span) for span in self]
        if None in widths:
            return None
        return total(*widths)
