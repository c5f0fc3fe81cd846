"""Point 12, and the interface's covers.py."""

import random
import unittest
from fractions import Fraction

from clockverdict.covers import Cover
from tests.covering import high_end, low_end, plain_holds, plain_normal, some_spans, times_around
from tests.support import fraction, rat, some_rational

WHOLE = (None, None)
# Each row: the spans that are passed, and the normal form.
NORMAL = [
    ([], []),
    ([((0, 1), (1, 1))], [((0, 1), (1, 1))]),
    ([((3, 1), (3, 1))], [((3, 1), (3, 1))]),
    ([((0, 1), (1, 1)), ((1, 1), (2, 1))], [((0, 1), (2, 1))]),
    ([((1, 1), (2, 1)), ((0, 1), (1, 1))], [((0, 1), (2, 1))]),
    ([((0, 1), (1, 1)), ((2, 1), (3, 1))], [((0, 1), (1, 1)), ((2, 1), (3, 1))]),
    ([((2, 1), (3, 1)), ((0, 1), (1, 1))], [((0, 1), (1, 1)), ((2, 1), (3, 1))]),
    ([((0, 1), (1, 1)), ((100001, 100000), (3, 1))], [((0, 1), (1, 1)), ((100001, 100000), (3, 1))]),
    ([((0, 1), (9, 1)), ((2, 1), (3, 1))], [((0, 1), (9, 1))]),
    ([((2, 1), (3, 1)), ((0, 1), (9, 1))], [((0, 1), (9, 1))]),
    ([((0, 1), (9, 1)), ((0, 1), (9, 1))], [((0, 1), (9, 1))]),
    ([((0, 1), (5, 1)), ((3, 1), (9, 1))], [((0, 1), (9, 1))]),
    ([((0, 1), (1, 1)), ((2, 1), (3, 1)), ((1, 1), (2, 1))], [((0, 1), (3, 1))]),
    ([((0, 1), (1, 1)), ((2, 1), (3, 1)), ((4, 1), (5, 1)), ((1, 2), (9, 2))], [((0, 1), (5, 1))]),
    ([((1, 1), (1, 1)), ((0, 1), (1, 1)), ((1, 1), (2, 1))], [((0, 1), (2, 1))]),
    ([((-1, 2), (-1, 3)), ((-2, 1), (-1, 1))], [((-2, 1), (-1, 1)), ((-1, 2), (-1, 3))]),
    ([((2, 1), None), (None, (1, 1))], [(None, (1, 1)), ((2, 1), None)]),
    ([((1, 1), None), (None, (1, 1))], [WHOLE]),
    ([((0, 1), (1, 1)), (None, (-3, 1)), ((5, 1), None)], [(None, (-3, 1)), ((0, 1), (1, 1)), ((5, 1), None)]),
    ([(None, (0, 1)), (None, (4, 1)), ((2, 1), (6, 1))], [(None, (6, 1))]),
    ([((0, 1), None), ((-4, 1), None), ((-6, 1), (-5, 1))], [((-6, 1), (-5, 1)), ((-4, 1), None)]),
    ([WHOLE, ((1, 1), (2, 1))], [WHOLE]),
    ([((1, 1), (2, 1)), WHOLE], [WHOLE]),
]
SAMPLE = [((3, 1), None), ((0, 1), (1, 1)), ((1, 1), (2, 1))]


def samples(rng, many, most=5):
    return [list(spans) for spans, wanted in NORMAL] + [some_spans(rng, most) for _ in range(many)]


class NormalFormTest(unittest.TestCase):
    def check(self, cover, spans):
        wanted = plain_normal(spans)
        self.assertIs(type(cover), Cover)
        self.assertEqual(list(cover), wanted)
        self.assertEqual(repr(list(cover)), repr(wanted))
        self.assertIs(type(cover.empty), bool)
        self.assertEqual(cover.empty, not wanted)
        self.assertEqual(cover.count(), len(wanted))

    def test_the_table(self):
        for spans, wanted in NORMAL:
            self.assertEqual(plain_normal(spans), wanted)
            for shape in (list, tuple):
                cover = Cover(shape(spans))
                self.check(cover, spans)
                self.assertEqual(list(cover), wanted)

    def test_any_order(self):
        rng = random.Random(1)
        for spans in samples(rng, 300):
            for _ in range(3):
                rng.shuffle(spans)
                self.check(Cover(spans), spans)
                self.check(Cover(tuple(spans)), spans)

    def test_many_spans(self):
        rng = random.Random(2)
        apart = [((3 * k, 1), (3 * k + 2, 1)) for k in range(40)]
        touching = [((k, 1), (k + 1, 1)) for k in range(40)]
        for spans in (apart, touching):
            rng.shuffle(spans)
            self.check(Cover(spans), spans)
        self.assertEqual(Cover(apart).count(), 40)
        self.assertEqual(Cover(touching).count(), 1)

    def test_no_span(self):
        for cover in (Cover(), Cover([]), Cover(())):
            self.check(cover, [])
            self.assertIs(cover.empty, True)
            self.assertIsNone(cover.hull_span())
            self.assertIsNone(cover.nearest((3, 1)))
            self.assertEqual(cover.measure(), (0, 1))
            self.assertIs(cover.holds((0, 1)), False)

    def test_the_whole_line(self):
        self.check(Cover.everything(), [WHOLE])
        self.assertIs(Cover.everything().empty, False)
        self.assertEqual(Cover.everything().hull_span(), WHOLE)
        self.assertIs(Cover.everything().holds((-10 ** 11, 7)), True)
        self.assertIsNone(Cover.everything().measure())
        self.assertEqual(Cover.everything().nearest((5, 3)), (5, 3))

    def test_iterating_twice(self):
        cover = Cover(SAMPLE)
        self.assertEqual([(a, b) for a in cover for b in cover], [(a, b) for a in list(cover) for b in list(cover)])


class HoldsTest(unittest.TestCase):
    def test_near_each_end(self):
        rng = random.Random(3)
        held = 0
        for spans in samples(rng, 200):
            cover = Cover(spans)
            for t in times_around(spans):
                self.assertIs(cover.holds(t), plain_holds(spans, t), (spans, t))
                held += cover.holds(t)
        self.assertGreater(held, 500)

    def test_a_single_time(self):
        cover = Cover([((1, 2), (1, 2))])
        self.assertIs(cover.holds((1, 2)), True)
        self.assertIs(cover.holds((49999, 100000)), False)
        self.assertIs(cover.holds((50001, 100000)), False)


class HullTest(unittest.TestCase):
    def test_the_least_span(self):
        rng = random.Random(4)
        for spans in samples(rng, 200):
            wanted = plain_normal(spans)
            told = Cover(spans).hull_span()
            self.assertEqual(told, (wanted[0][0], wanted[-1][1]) if wanted else None)

    def test_ends_none(self):
        self.assertEqual(Cover(SAMPLE).hull_span(), ((0, 1), None))
        self.assertEqual(Cover([(None, (0, 1)), ((2, 1), (3, 1))]).hull_span(), (None, (3, 1)))
        self.assertEqual(Cover([(None, (0, 1)), ((2, 1), None)]).hull_span(), WHOLE)


class OperatorTest(unittest.TestCase):
    def test_or_and_and_near_each_end(self):
        rng = random.Random(5)
        empty = 0
        for _ in range(300):
            first, second = some_spans(rng), some_spans(rng)
            a, b = Cover(first), Cover(second)
            either, both = a | b, a & b
            self.assertIs(type(either), Cover)
            self.assertIs(type(both), Cover)
            self.assertEqual(list(either), plain_normal(first + second))
            self.assertEqual(list(both), plain_normal(list(both)))
            for t in times_around(first + second):
                self.assertIs(either.holds(t), plain_holds(first, t) or plain_holds(second, t))
                self.assertIs(both.holds(t), plain_holds(first, t) and plain_holds(second, t))
            self.assertEqual((list(a), list(b)), (plain_normal(first), plain_normal(second)))
            self.assertEqual(list(b | a), list(either))
            self.assertEqual(list(b & a), list(both))
            empty += both.empty
        self.assertGreater(empty, 20)
        self.assertLess(empty, 250)

    def test_by_hand(self):
        a = Cover([((0, 1), (2, 1)), ((4, 1), (6, 1))])
        b = Cover([((2, 1), (4, 1)), ((5, 1), (9, 1))])
        self.assertEqual(list(a | b), [((0, 1), (9, 1))])
        self.assertEqual(list(a & b), [((2, 1), (2, 1)), ((4, 1), (4, 1)), ((5, 1), (6, 1))])
        self.assertEqual(list(a & Cover([((3, 1), (7, 2))])), [])
        self.assertEqual(list(a | Cover([((8, 1), None)])), [((0, 1), (2, 1)), ((4, 1), (6, 1)), ((8, 1), None)])
        for cover in (a, b, Cover()):
            self.assertEqual(list(cover & Cover.everything()), list(cover))
            self.assertEqual(list(Cover.everything() & cover), list(cover))
            self.assertEqual(list(cover | Cover.everything()), [WHOLE])
            self.assertEqual(list(cover | Cover()), list(cover))
            self.assertEqual(list(Cover() | cover), list(cover))
            self.assertEqual(list(cover & Cover()), [])
            self.assertEqual(list(Cover() & cover), [])
            self.assertEqual(list(cover & cover), list(cover))
            self.assertEqual(list(cover | cover), list(cover))

    def test_plus(self):
        rng = random.Random(6)
        for spans in samples(rng, 100):
            cover = Cover(spans)
            for by in [(0, 1), (1, 3), (-7, 2), some_rational(rng)]:
                moved = cover + by
                self.assertIs(type(moved), Cover)
                for low, high in list(moved):
                    self.assertTrue(low is None or type(low) is tuple)
                for t in times_around(spans):
                    self.assertEqual(moved.holds(rat(fraction(t) + fraction(by))), cover.holds(t))
                self.assertEqual(moved.count(), cover.count())
                self.assertEqual(list(cover), plain_normal(spans))
        self.assertEqual(list(Cover(SAMPLE) + (1, 2)), [((1, 2), (5, 2)), ((7, 2), None)])
        self.assertEqual(list(Cover([(None, (1, 1))]) + (-1, 2)), [(None, (1, 2))])
        self.assertEqual(list(Cover() + (5, 1)), [])


class InsideTest(unittest.TestCase):
    def test_against_the_other_operators(self):
        rng = random.Random(7)
        counts = {True: 0, False: 0}
        for _ in range(400):
            first, second = some_spans(rng, 3), some_spans(rng, 5)
            a, b = Cover(first), Cover(second)
            for x, y in ((a, b), (b, a), (a & b, a), (a, a | b), (a | b, a), (a, a & b)):
                told = x.inside(y)
                self.assertIs(type(told), bool)
                self.assertEqual(told, list(x | y) == list(y))
                self.assertEqual(told, list(x & y) == list(x))
                counts[told] += 1
        self.assertGreater(min(counts.values()), 400)

    def test_by_hand(self):
        inner, outer = Cover([((1, 1), (2, 1)), ((5, 1), (5, 1))]), Cover([((1, 1), (3, 1)), ((4, 1), (5, 1))])
        self.assertIs(inner.inside(outer), True)
        self.assertIs(outer.inside(inner), False)
        self.assertIs(inner.inside(inner), True)
        self.assertIs(Cover([((2, 1), (4, 1))]).inside(outer), False)
        self.assertIs(Cover([((1, 1), (5, 1))]).inside(outer), False)
        self.assertIs(Cover([((1, 1), None)]).inside(outer), False)
        self.assertIs(Cover([(None, (2, 1))]).inside(outer), False)
        self.assertIs(Cover([((1, 1), (2, 1)), ((7, 1), (8, 1))]).inside(outer), False)
        self.assertIs(Cover([((7, 1), (8, 1)), ((9, 1), (10, 1))]).inside(Cover([((7, 1), None)])), True)
        for cover in (inner, outer, Cover(), Cover.everything()):
            self.assertIs(Cover().inside(cover), True)
            self.assertIs(cover.inside(Cover()), cover.empty)
            self.assertIs(cover.inside(Cover.everything()), True)
            self.assertIs(Cover.everything().inside(cover), list(cover) == [WHOLE])


class NearestTest(unittest.TestCase):
    def test_against_all_ends(self):
        rng = random.Random(8)
        for spans in samples(rng, 200):
            cover = Cover(spans)
            for t in times_around(spans):
                if cover.empty:
                    self.assertIsNone(cover.nearest(t))
                    continue
                if cover.holds(t):
                    self.assertEqual(cover.nearest(t), t)
                    continue
                ends = [fraction(end) for span in spans for end in span if end is not None]
                wanted = min(ends, key=lambda end: (abs(end - fraction(t)), end))
                self.assertEqual(cover.nearest(t), rat(wanted))

    def test_by_hand(self):
        cover = Cover([((3, 1), (4, 1)), ((0, 1), (2, 1)), ((9, 1), (9, 1))])
        for t, wanted in [((-5, 1), (0, 1)), ((0, 1), (0, 1)), ((1, 3), (1, 3)), ((2, 1), (2, 1)),
                          ((9, 4), (2, 1)), ((5, 2), (2, 1)), ((11, 4), (3, 1)), ((3, 1), (3, 1)),
                          ((7, 2), (7, 2)), ((13, 2), (4, 1)), ((6500001, 10 ** 6), (9, 1)), ((100, 1), (9, 1))]:
            self.assertEqual(cover.nearest(t), wanted, t)
        open_ends = Cover([(None, (0, 1)), ((4, 1), None)])
        for t, wanted in [((-99, 1), (-99, 1)), ((1, 1), (0, 1)), ((2, 1), (0, 1)), ((3, 1), (4, 1)), ((99, 1), (99, 1))]:
            self.assertEqual(open_ends.nearest(t), wanted, t)


class MeasureTest(unittest.TestCase):
    def test_the_sum_of_the_widths(self):
        rng = random.Random(9)
        seen = {True: 0, False: 0}
        for spans in samples(rng, 300):
            parts = plain_normal(spans)
            told = Cover(spans).measure()
            seen[told is None] += 1
            if any([None in part for part in parts]):
                self.assertIsNone(told)
            else:
                self.assertEqual(told, rat(sum([high_end(part) - low_end(part) for part in parts], Fraction(0))))
        self.assertGreater(min(seen.values()), 50)

    def test_by_hand(self):
        self.assertEqual(Cover([((0, 1), (2, 1)), ((1, 1), (3, 1)), ((4, 1), (9, 2))]).measure(), (7, 2))
        self.assertEqual(Cover([((3, 1), (3, 1))]).measure(), (0, 1))
        self.assertIsNone(Cover([((0, 1), (1, 1)), ((5, 1), None)]).measure())
        self.assertIsNone(Cover([(None, (1, 1))]).measure())
        many = Cover([((2 * k, 1), (2 * k + 1, 1)) for k in range(60)])
        self.assertEqual(many.measure(), (60, 1))


class KeptTest(unittest.TestCase):
    def test_what_is_passed_is_not_kept(self):
        spans = list(SAMPLE)
        cover = Cover(spans)
        spans.clear()
        spans.append(((50, 1), (60, 1)))
        self.assertEqual(list(cover), [((0, 1), (2, 1)), ((3, 1), None)])
        self.assertIs(cover.holds((55, 1)), True)
        self.assertIs(cover.holds((5, 2)), False)

    def test_what_is_passed_is_not_changed(self):
        spans = list(SAMPLE)
        Cover(spans)
        self.assertEqual(spans, SAMPLE)

    def test_a_cover_never_changes(self):
        cover, other = Cover(SAMPLE), Cover([((-9, 1), (-8, 1)), ((5, 2), (5, 2))])
        wanted = list(cover)
        list(cover).clear()
        list(cover).append(((9, 1), (9, 1)))
        for result in (cover | other, cover & other, cover + (1, 1), other | cover, other & cover):
            self.assertIsNot(result, cover)
        cover.inside(other), cover.nearest((5, 2)), cover.measure(), cover.hull_span(), cover.count(), cover.empty
        self.assertEqual(list(cover), wanted)
        grown = cover
        grown = grown | other
        grown = grown + (3, 1)
        self.assertEqual(list(cover), wanted)
        self.assertEqual(list(other), [((-9, 1), (-8, 1)), ((5, 2), (5, 2))])

    def test_long_integers(self):
        long = 7 ** 400
        cover = Cover([((long, 3), (long + 1, 3)), ((long + 2, 3), None), (rat(long, 2 * 5 ** 90), rat(long, 5 ** 90))])
        self.assertEqual(cover.count(), 3)
        self.assertEqual(cover.nearest(rat(2 * long + 3, 6)), (long + 1, 3))


if __name__ == "__main__":
    unittest.main()
