"""Point 11 and the interface's spans.py."""

import random
import unittest

from clockverdict.errors import EmptySpan
from clockverdict.spans import (far_end, hull, is_span, make_span, meet, meet_all, middle_of, shift, span_holds, widen,
                                width_of)
from tests.support import (ODD_VALUES, caught, check_judge, fraction, plain_rational, rat, some_rational, spoiled,
                           unchanged)

LONG = 7 ** 1000

SPANS = [
    (None, None), (None, (0, 1)), ((0, 1), None), ((0, 1), (0, 1)), ((1, 2), (3, 1)), ((-5, 2), (-1, 3)),
    ((-5, 2), (7, 1)), (None, (-7, 2)), ((7, 2), None), ((3, 1), (3, 1)), ((3, 1), (5, 1)), ((0, 1), (3, 1)),
    ((-LONG, 1), (LONG, 3)), ((1, LONG), (1, 1)),
]

TIMES = [(0, 1), (1, 1), (-1, 1), (3, 1), (5, 1), (1, 2), (-5, 2), (7, 2), (-7, 2), (LONG, 3), (LONG + 1, 3), (1, LONG)]


def plain_span(value):
    if type(value) is not tuple or len(value) != 2:
        return False
    for end in value:
        if end is not None and not plain_rational(end):
            return False
    return None in value or fraction(value[0]) <= fraction(value[1])


def holds(span, t):
    low, high = span
    if low is not None and fraction(t) < fraction(low):
        return False
    return high is None or fraction(t) <= fraction(high)


def all_spans():
    rng = random.Random(3)
    found = list(SPANS)
    for _ in range(20):
        ends = sorted([some_rational(rng), some_rational(rng)], key=fraction)
        low = None if rng.random() < 0.2 else ends[0]
        high = None if rng.random() < 0.2 else ends[1]
        found.append((low, high))
    return found


class SpansTest(unittest.TestCase):
    def test_make_span(self):
        self.assertEqual(make_span(), (None, None))
        self.assertEqual(make_span(None, None), (None, None))
        self.assertEqual(make_span((1, 1)), ((1, 1), None))
        self.assertEqual(make_span(None, (1, 1)), (None, (1, 1)))
        self.assertEqual(make_span((1, 2), (1, 2)), ((1, 2), (1, 2)))
        self.assertEqual(make_span((-3, 1), (1, 2)), ((-3, 1), (1, 2)))
        self.assertEqual(make_span((1, 3), (1, 2)), ((1, 3), (1, 2)))
        self.assertIs(type(make_span()), tuple)

    def test_make_span_with_ends_in_the_wrong_order(self):
        for low, high in [((1, 1), (0, 1)), ((1, 2), (1, 3)), ((-1, 3), (-1, 2)), ((LONG + 1, 1), (LONG, 1))]:
            error = caught(self, EmptySpan, make_span, low, high)
            self.assertEqual((error.low, error.high), (low, high))

    def test_span_holds(self):
        for span in all_spans():
            for t in TIMES + [end for end in span if end is not None]:
                self.assertIs(span_holds(span, t), holds(span, t), (span, t))
        self.assertIs(span_holds(((0, 1), (1, 1)), (1, 1)), True)
        self.assertIs(span_holds(((0, 1), (1, 1)), (0, 1)), True)
        self.assertIs(span_holds((None, None), (-5, 1)), True)

    def test_width_and_middle(self):
        for span in all_spans():
            if None in span:
                self.assertIsNone(width_of(span))
                self.assertIsNone(middle_of(span))
            else:
                low, high = fraction(span[0]), fraction(span[1])
                self.assertEqual(width_of(span), rat(high - low))
                self.assertEqual(middle_of(span), rat((low + high) / 2))
        self.assertEqual(width_of(((3, 1), (3, 1))), (0, 1))
        self.assertEqual(middle_of(((-1, 2), (1, 1))), (1, 4))

    def test_far_end(self):
        for span in all_spans():
            for t in TIMES:
                if None in span:
                    self.assertIsNone(far_end(span, t))
                else:
                    x = fraction(t)
                    wanted = max(abs(x - fraction(span[0])), abs(x - fraction(span[1])))
                    self.assertEqual(far_end(span, t), rat(wanted))
        self.assertEqual(far_end(((0, 1), (4, 1)), (1, 1)), (3, 1))
        self.assertEqual(far_end(((0, 1), (4, 1)), (3, 1)), (3, 1))
        self.assertEqual(far_end(((0, 1), (4, 1)), (9, 1)), (9, 1))
        self.assertEqual(far_end(((0, 1), (4, 1)), (-9, 1)), (13, 1))

    def test_meet(self):
        for a in all_spans():
            for b in all_spans():
                result = meet(a, b)
                lows = [fraction(span[0]) for span in (a, b) if span[0] is not None]
                highs = [fraction(span[1]) for span in (a, b) if span[1] is not None]
                if lows and highs and max(lows) > min(highs):
                    self.assertIsNone(result)
                else:
                    wanted = (rat(max(lows)) if lows else None, rat(min(highs)) if highs else None)
                    self.assertEqual(result, wanted)
                    self.assertTrue(plain_span(result))

    def test_spans_that_touch_meet_in_one_time(self):
        self.assertEqual(meet(((0, 1), (3, 1)), ((3, 1), (5, 1))), ((3, 1), (3, 1)))
        self.assertEqual(meet(((3, 1), None), (None, (3, 1))), ((3, 1), (3, 1)))
        self.assertIsNone(meet(((0, 1), (3, 1)), ((7, 2), (5, 1))))
        self.assertIsNone(meet(((7, 2), None), (None, (3, 1))))

    def test_meet_all(self):
        rng = random.Random(4)
        self.assertEqual(meet_all(), (None, None))
        for span in SPANS:
            self.assertEqual(meet_all(span), span)
        for _ in range(300):
            spans = [rng.choice(all_spans()) for _ in range(rng.randint(2, 5))]
            wanted = (None, None)
            for span in spans:
                wanted = None if wanted is None else meet(wanted, span)
            self.assertEqual(unchanged(self, meet_all, *spans), wanted)
        self.assertIsNone(meet_all(((0, 1), (1, 1)), ((2, 1), (3, 1)), ((0, 1), (3, 1))))
        self.assertEqual(meet_all(((0, 1), (4, 1)), ((2, 1), (6, 1)), ((1, 1), (3, 1))), ((2, 1), (3, 1)))

    def test_hull(self):
        for a in all_spans():
            for b in all_spans():
                lows, highs = (a[0], b[0]), (a[1], b[1])
                low = None if None in lows else rat(min(fraction(lows[0]), fraction(lows[1])))
                high = None if None in highs else rat(max(fraction(highs[0]), fraction(highs[1])))
                self.assertEqual(hull(a, b), (low, high))

    def test_shift(self):
        for span in all_spans():
            for by in TIMES:
                wanted = tuple([None if end is None else rat(fraction(end) + fraction(by)) for end in span])
                self.assertEqual(shift(span, by), wanted)

    def test_widen(self):
        for span in all_spans():
            for by in TIMES:
                low = None if span[0] is None else fraction(span[0]) - fraction(by)
                high = None if span[1] is None else fraction(span[1]) + fraction(by)
                if low is not None and high is not None and low > high:
                    error = caught(self, EmptySpan, widen, span, by)
                    self.assertEqual((error.low, error.high), (rat(low), rat(high)))
                else:
                    wanted = (None if low is None else rat(low), None if high is None else rat(high))
                    self.assertEqual(widen(span, by), wanted)

    def test_widen_by_less_than_zero(self):
        span = ((1, 1), (4, 1))
        self.assertEqual(widen(span, (-1, 1)), ((2, 1), (3, 1)))
        self.assertEqual(widen(span, (-3, 2)), ((5, 2), (5, 2)))
        error = caught(self, EmptySpan, widen, span, (-2, 1))
        self.assertEqual((error.low, error.high), ((3, 1), (2, 1)))
        error = caught(self, EmptySpan, widen, span, (-8, 5))
        self.assertEqual((error.low, error.high), ((13, 5), (12, 5)))
        self.assertEqual(widen((None, (4, 1)), (-9, 1)), (None, (-5, 1)))
        self.assertEqual(widen(((4, 1), None), (-9, 1)), ((13, 1), None))
        self.assertEqual(widen((None, None), (-9, 1)), (None, None))


class IsSpanTest(unittest.TestCase):
    def test_odd_values(self):
        check_judge(self, is_span, plain_span, ODD_VALUES)

    def test_right_values(self):
        for span in all_spans():
            self.assertIs(is_span(span), True)

    def test_one_thing_wrong(self):
        for span in SPANS:
            counts = check_judge(self, is_span, plain_span, list(spoiled(span)))
            self.assertGreater(counts[False], 20)

    def test_wrong_values(self):
        for value in [((1, 1), (0, 1)), ((1, 2), (1, 3)), [None, None], [(0, 1), (1, 1)], (None,), (None, None, None),
                      ((0, 2), None), (None, (2, 4)), (0, 1), (True, None), ([0, 1], None), None, "", ((0, True), None),
                      {None: None}, ((LONG + 1, 1), (LONG, 1))]:
            self.assertIs(is_span(value), False)


if __name__ == "__main__":
    unittest.main()
