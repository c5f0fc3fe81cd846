"""Points 22, 23, 24, 26, 27 and 28, and the interface's bounds.py."""

import random
import unittest

from clockverdict.bounds import (all_bounds, bound_way, is_span_certificate, least_bound, narrowest, span_certificate,
                                 world_at)
from clockverdict.errors import NoWorld, OutsideSpan, UnknownMoment
from clockverdict.worlds import is_ring, is_way, is_world, way_sum
from tests.claiming import cases, plain_bounds, plain_certificate, plain_ring, plain_span, plain_sum, plain_way
from tests.claiming import plain_world
from tests.support import ODD_VALUES, boxes, caught, check_judge, fraction, rat, spoiled, unchanged

# Moment 1 has both ends, moment 2 a high alone, moment 3 a low alone, moment 4 neither (but a bound to moment 5).
CLAIMS = [(0, 1, (11, 1), "a"), (1, 0, (-9, 1), "a"), (1, 2, (2, 1), ""), (3, 1, (-1, 2), "b"), (4, 5, (1, 1), ""),
          (0, 0, (0, 1), "a"), (5, 5, (3, 1), "b")]
COUNT = 6
SPANS = [((0, 1), (0, 1)), ((9, 1), (11, 1)), (None, (13, 1)), ((19, 2), None), (None, None), (None, None)]
# The same with a claim that makes a ring: moment 1 at most at 8.
FALSE = CLAIMS + [(0, 1, (8, 1), "c")]


class NoWorldTest(unittest.TestCase):
    def calls(self, count, claims, **more):
        return [(least_bound, (count, claims, 0, 0)), (bound_way, (count, claims, 0, 0)),
                (narrowest, (count, claims, 0)), (world_at, (count, claims, 0, (5, 1))),
                (span_certificate, (count, claims, 0)), (all_bounds, (count, claims))]

    def test_a_ring_is_raised(self):
        for call, args in self.calls(COUNT, FALSE):
            for liars in ((), ["zz"], ("b",)):
                error = caught(self, NoWorld, call, *args, liars=liars)
                self.assertTrue(plain_ring(FALSE, error.ring, liars))
                self.assertIs(is_ring(FALSE, error.ring, liars=liars), True)
                self.assertLessEqual(len(error.ring), COUNT)
            for liars in (["a"], ("c",), ["b", "c"]):
                if call is not world_at:
                    call(*args, liars=liars)

    def test_the_ring_of_an_error_is_new_for_each_call(self):
        for call, args in self.calls(COUNT, FALSE):
            error = caught(self, NoWorld, call, *args)
            again = caught(self, NoWorld, call, *args)
            self.assertIs(error.ring, error.ring)
            self.assertIsNot(error.ring, again.ring)
            kept = list(again.ring)
            error.ring.clear()
            self.assertEqual(error.ring, [])
            self.assertEqual(again.ring, kept)
            self.assertEqual(caught(self, NoWorld, call, *args).ring, kept)

    def test_a_claim_of_a_moment_to_itself(self):
        for call, args in self.calls(1, [(0, 0, (-1, 9), "a")]):
            self.assertEqual(caught(self, NoWorld, call, *args).ring, [0])
            if call is not world_at:
                call(*args, liars=["a"])

    def test_many_rings(self):
        rng = random.Random(12)
        rings = 0
        for count, claims, liars in cases(rng, 200):
            if plain_bounds(count, claims, liars) is None:
                rings += 1
                for call, args in self.calls(count, claims):
                    error = caught(self, NoWorld, call, *args, liars=liars)
                    self.assertTrue(plain_ring(claims, error.ring, liars))
                    self.assertLessEqual(len(error.ring), count)
        self.assertGreater(rings, 30)


class UnknownMomentTest(unittest.TestCase):
    def test_moments_out_of_range(self):
        for claims in (CLAIMS, FALSE, []):
            for moment in (-1, -6, COUNT, COUNT + 1, 10 ** 11):
                for call, args in [(least_bound, (moment, 0)), (least_bound, (0, moment)), (least_bound, (moment, 99)),
                                   (bound_way, (moment, 0)), (bound_way, (0, moment)), (bound_way, (moment, 99)),
                                   (narrowest, (moment,)), (world_at, (moment, (5, 1))), (span_certificate, (moment,))]:
                    error = caught(self, UnknownMoment, call, COUNT, claims, *args)
                    self.assertEqual(error.moment, moment)
        self.assertEqual(caught(self, UnknownMoment, narrowest, 1, [], 1).moment, 1)

    def test_all_moments_in_range(self):
        for moment in range(COUNT):
            narrowest(COUNT, CLAIMS, moment)
            least_bound(COUNT, CLAIMS, moment, COUNT - 1)
            least_bound(COUNT, CLAIMS, COUNT - 1, moment)


class BoundTest(unittest.TestCase):
    def test_the_sample(self):
        self.assertEqual(least_bound(COUNT, CLAIMS, 0, 2), (13, 1))
        self.assertEqual(least_bound(COUNT, CLAIMS, 2, 0), None)
        self.assertEqual(least_bound(COUNT, CLAIMS, 3, 2), (3, 2))
        self.assertEqual(least_bound(COUNT, CLAIMS, 3, 0), (-19, 2))
        self.assertEqual(least_bound(COUNT, CLAIMS, 4, 5), (1, 1))
        self.assertEqual(least_bound(COUNT, CLAIMS, 5, 4), None)
        self.assertEqual(least_bound(COUNT, CLAIMS, 3, 2, liars=["b"]), None)
        self.assertEqual(least_bound(COUNT, CLAIMS, 0, 2, liars=("a", "zz")), None)
        for moment in range(COUNT):
            self.assertEqual(least_bound(COUNT, CLAIMS, moment, moment), (0, 1))
            self.assertEqual(unchanged(self, bound_way, COUNT, CLAIMS, moment, moment), [])
            self.assertEqual(narrowest(COUNT, CLAIMS, moment), SPANS[moment])
        self.assertEqual(bound_way(COUNT, CLAIMS, 0, 2), [0, 2])
        self.assertEqual(bound_way(COUNT, CLAIMS, 3, 0), [3, 1])
        self.assertIsNone(bound_way(COUNT, CLAIMS, 2, 0))
        self.assertEqual(narrowest(COUNT, CLAIMS, 1, liars=["a"]), (None, None))
        self.assertEqual(narrowest(COUNT, FALSE, 1, liars=("c",)), ((9, 1), (11, 1)))
        self.assertEqual(narrowest(COUNT, FALSE, 1, liars=("a",)), (None, (8, 1)))

    def test_the_lesser_of_two_ways(self):
        claims = [(0, 1, (5, 1), ""), (0, 2, (1, 1), ""), (2, 3, (1, 1), ""), (3, 1, (1, 1), ""), (0, 1, (7, 2), "")]
        self.assertEqual(least_bound(4, claims, 0, 1), (3, 1))
        self.assertEqual(bound_way(4, claims, 0, 1), [1, 2, 3])
        self.assertEqual(least_bound(4, claims[:2] + claims[4:], 0, 1), (7, 2))

    def test_many(self):
        rng = random.Random(13)
        fitting = 0
        for count, claims, liars in cases(rng, 400):
            bounds = plain_bounds(count, claims, liars)
            if bounds is None:
                continue
            fitting += 1
            self.assertEqual(unchanged(self, all_bounds, count, claims, liars=liars), bounds)
            for a in range(count):
                self.assertEqual(unchanged(self, narrowest, count, claims, a, liars=liars), plain_span(bounds, a))
                for b in range(count):
                    self.assertEqual(unchanged(self, least_bound, count, claims, a, b, liars=liars), bounds[a][b])
                    way = unchanged(self, bound_way, count, claims, a, b, liars=liars)
                    if bounds[a][b] is None:
                        self.assertIsNone(way)
                    else:
                        self.assertTrue(plain_way(claims, way, a, b, liars))
                        self.assertIs(is_way(claims, way, a, b, liars=liars), True)
                        self.assertEqual(rat(plain_sum(claims, way)), bounds[a][b])
                        self.assertEqual(way_sum(claims, way), bounds[a][b])
                        self.assertLessEqual(len(way), count)
        self.assertGreater(fitting, 150)

    def test_all_bounds(self):
        rows = all_bounds(COUNT, CLAIMS)
        self.assertEqual(rows, plain_bounds(COUNT, CLAIMS))
        self.assertEqual([len(row) for row in rows], [COUNT] * COUNT)
        self.assertEqual(len({id(box) for box in boxes(rows)}), COUNT + 1)
        rows[0][0] = None
        rows.pop()
        self.assertEqual(all_bounds(COUNT, CLAIMS), plain_bounds(COUNT, CLAIMS))
        self.assertEqual(all_bounds(1, []), [[(0, 1)]])
        self.assertEqual(all_bounds(2, []), [[(0, 1), None], [None, (0, 1)]])
        self.assertEqual(all_bounds(COUNT, FALSE, liars=["c"]), plain_bounds(COUNT, CLAIMS))

    def test_a_long_chain_in_either_order(self):
        for order in (1, -1):
            chain = [(k, k + 1, (1, k + 2), "") for k in range(16)][::order]
            whole = rat(sum([fraction(claim[2]) for claim in chain]))
            self.assertEqual(least_bound(17, chain, 0, 16), whole)
            self.assertEqual(len(bound_way(17, chain, 0, 16)), 16)
            self.assertEqual(narrowest(17, chain, 16), (None, whole))

    def test_ways_around_a_ring_of_sum_zero(self):
        claims = [(0, 1, (1, 1), ""), (1, 2, (-1, 1), ""), (2, 0, (0, 1), ""), (2, 1, (1, 1), ""), (1, 1, (0, 1), "")]
        bounds = plain_bounds(3, claims)
        self.assertEqual(all_bounds(3, claims), bounds)
        for a in range(3):
            for b in range(3):
                way = bound_way(3, claims, a, b)
                self.assertEqual(rat(plain_sum(claims, way)), bounds[a][b])
                self.assertLessEqual(len(way), 3)

    def test_long_integers(self):
        long = 7 ** 1100
        claims = [(0, 1, (long, 3 ** 500), "a"), (1, 0, (-long + 1, 3 ** 500), "a"), (1, 2, (1, 10 ** 11 + 3), "")]
        claims = [(a, b, rat(fraction(w)), owner) for a, b, w, owner in claims]
        self.assertEqual(all_bounds(3, claims), plain_bounds(3, claims))
        self.assertTrue(plain_certificate(3, claims, 1, span_certificate(3, claims, 1)))


class WorldAtTest(unittest.TestCase):
    def check_world(self, count, claims, moment, at, liars=()):
        world = unchanged(self, world_at, count, claims, moment, at, liars=liars)
        self.assertTrue(plain_world(count, claims, world, liars), world)
        self.assertIs(is_world(count, claims, world, liars=liars), True)
        self.assertEqual(world[moment], at)

    def check_outside(self, count, claims, moment, at, liars=()):
        error = caught(self, OutsideSpan, world_at, count, claims, moment, at, liars=liars)
        self.assertEqual(error.value, at)

    def test_at_between_and_outside_the_ends(self):
        for at in [(9, 1), (10, 1), (11, 1), (28, 3)]:
            self.check_world(COUNT, CLAIMS, 1, at)
        for at in [(899999, 100000), (1100001, 100000), (0, 1), (-9, 1)]:
            self.check_outside(COUNT, CLAIMS, 1, at)
        for at in [(13, 1), (-10 ** 11, 1)]:
            self.check_world(COUNT, CLAIMS, 2, at)
        self.check_outside(COUNT, CLAIMS, 2, (1300001, 100000))
        for at in [(19, 2), (10 ** 11, 7)]:
            self.check_world(COUNT, CLAIMS, 3, at)
        self.check_outside(COUNT, CLAIMS, 3, (949999, 100000))
        for at in [(0, 1), (-10 ** 11, 1), (10 ** 11, 7)]:
            self.check_world(COUNT, CLAIMS, 4, at)
            self.check_world(COUNT, CLAIMS, 5, at)
            self.check_world(COUNT, CLAIMS, 1, at, liars=["a", "b"])

    def test_the_zero_moment(self):
        self.check_world(COUNT, CLAIMS, 0, (0, 1))
        self.check_outside(COUNT, CLAIMS, 0, (1, 10 ** 11))
        self.check_outside(COUNT, CLAIMS, 0, (-1, 1))
        self.check_world(1, [], 0, (0, 1))
        self.check_outside(1, [], 0, (3, 1))

    def test_no_world_comes_first(self):
        caught(self, NoWorld, world_at, COUNT, FALSE, 1, (100, 1))
        caught(self, NoWorld, world_at, COUNT, FALSE, 1, (10, 1))
        self.check_outside(COUNT, FALSE, 1, (10, 1), liars=("a",))
        self.check_world(COUNT, FALSE, 1, (8, 1), liars=["a"])

    def test_many(self):
        rng = random.Random(14)
        for count, claims, liars in cases(rng, 250):
            bounds = plain_bounds(count, claims, liars)
            if bounds is None:
                continue
            for moment in range(count):
                low, high = plain_span(bounds, moment)
                inside = [end for end in (low, high) if end is not None]
                if low is not None and high is not None:
                    inside.append(rat((fraction(low) + fraction(high)) / 2))
                if low is None:
                    inside.append(rat((fraction(high) if high is not None else 0) - 1000))
                if high is None:
                    inside.append(rat((fraction(low) if low is not None else 0) + 1000))
                for at in inside:
                    self.check_world(count, claims, moment, at, liars)
                if low is not None:
                    self.check_outside(count, claims, moment, rat(fraction(low) - fraction((1, 1000))), liars)
                if high is not None:
                    self.check_outside(count, claims, moment, rat(fraction(high) + fraction((1, 1000))), liars)


class CertificateTest(unittest.TestCase):
    def judge(self, count, claims, moment, liars=()):
        return (lambda value: is_span_certificate(count, claims, moment, value, liars=liars),
                lambda value: plain_certificate(count, claims, moment, value, liars))

    def test_the_sample(self):
        for moment in range(COUNT):
            value = unchanged(self, span_certificate, COUNT, CLAIMS, moment)
            self.assertEqual(value[0], SPANS[moment])
            self.assertTrue(plain_certificate(COUNT, CLAIMS, moment, value))
            self.assertIs(is_span_certificate(COUNT, CLAIMS, moment, value), True)
            self.assertEqual(value[1][0], "cut" if SPANS[moment][1] is None else "way")
            self.assertEqual(value[2][0], "cut" if SPANS[moment][0] is None else "way")
            for other in range(COUNT):
                self.assertIs(is_span_certificate(COUNT, CLAIMS, other, value),
                              plain_certificate(COUNT, CLAIMS, other, value))

    def test_one_thing_wrong(self):
        for moment in range(COUNT):
            value = span_certificate(COUNT, CLAIMS, moment)
            judge, plain = self.judge(COUNT, CLAIMS, moment)
            counts = check_judge(self, judge, plain, list(spoiled(value)) + [value])
            self.assertGreater(counts[False], 300)
            self.assertGreater(counts[True], 0)

    def test_liars(self):
        for moment in range(COUNT):
            for liars in (["c"], ("c", "b"), ["a"], ("zz", "a")):
                value = unchanged(self, span_certificate, COUNT, FALSE, moment, liars=liars)
                judge, plain = self.judge(COUNT, FALSE, moment, liars)
                self.assertTrue(plain(value))
                check_judge(self, judge, plain, list(spoiled(value)) + [value])
                self.assertIs(is_span_certificate(COUNT, FALSE, moment, value), False)

    def test_the_claims_of_a_liar_show_nothing(self):
        claims = [(0, 1, (5, 1), "a"), (0, 1, (5, 1), "b"), (1, 0, (-3, 1), "b"), (1, 0, (-3, 1), "a")]
        high, low = [(0, 1), (5, 1)], [(0, 1), (3, 1)]
        for above, below, liars, wanted in [
            ([1], [2], ["a"], True), ([0], [2], ["a"], False), ([1], [3], ("a",), False), ([0], [3], ("b",), True),
            ([0], [2], (), True), ([1, 2, 1, 2, 1], [2], ["a"], False),
        ]:
            value = (((3, 1), (5, 1)), ("way", above, high), ("way", below, low))
            self.assertEqual(plain_certificate(2, claims, 1, value, liars), wanted)
            self.assertIs(is_span_certificate(2, claims, 1, value, liars=liars), wanted)

    def test_claims_that_no_world_fits(self):
        for moment in range(COUNT):
            value = span_certificate(COUNT, CLAIMS, moment)
            self.assertIs(is_span_certificate(COUNT, FALSE, moment, value), False)
        self.assertIs(is_span_certificate(1, [(0, 0, (-1, 1), "")], 0, span_certificate(1, [], 0)), False)

    def test_odd_values(self):
        for count, moment in [(1, 0), (2, 0), (2, 1)]:
            judge, plain = self.judge(count, [], moment)
            check_judge(self, judge, plain, ODD_VALUES)

    def test_hand_made_certificates(self):
        world = [(0, 1), (10, 1), (11, 1), (12, 1), (0, 1), (0, 1)]
        high = [(0, 1), (11, 1), (11, 1), (12, 1), (0, 1), (0, 1)]
        low = [(0, 1), (9, 1), (11, 1), (12, 1), (0, 1), (0, 1)]
        span = ((9, 1), (11, 1))
        good = (span, ("way", [0], high), ("way", [1], low))
        for value, wanted in [
            (good, True),
            ((span, ("way", [0, 1, 0, 1, 0], high), ("way", [1], low)), False),
            ((span, ("way", [5, 5, 0], high), ("way", [1, 5], low)), True),
            ((span, ("way", [0], low), ("way", [1], low)), False),
            ((span, ("way", [0], high), ("way", [1], high)), False),
            ((span, ("way", [0], world), ("way", [1], low)), False),
            ((span, ("way", [1], low), ("way", [0], high)), False),
            ((span, ("cut", [0], high), ("way", [1], low)), False),
            (((None, (11, 1)), ("way", [0], high), ("cut", [1, 2], low)), False),
            ((((8, 1), (11, 1)), ("way", [0], high), ("way", [1], low)), False),
            ((((9, 1), (12, 1)), ("way", [0], high), ("way", [1], low)), False),
            ((((10, 1), (11, 1)), ("way", [0], high), ("way", [1], world)), False),
            (list(good), False), (good + (0,), False), (good[:2], False),
        ]:
            self.assertEqual(plain_certificate(COUNT, CLAIMS, 1, value), wanted, value)
            self.assertIs(is_span_certificate(COUNT, CLAIMS, 1, value), wanted, value)

    def test_hand_made_cuts(self):
        world = [(0, 1), (10, 1), (11, 1), (12, 1), (0, 1), (0, 1)]
        whole = (None, None)
        for above, below, wanted in [
            ([0, 1, 2], [4, 5], True), ([0, 1, 2, 3], [4, 5], True), ([0, 1, 2, 3, 5], [4, 5], True),
            ([0, 1, 2, 5], [1, 2, 4, 5], False), ([0, 1, 2], [1, 4, 5], False), ([0, 2, 1], [4, 5], False),
            ([0, 1, 2], [4], False), ([0, 1], [4, 5], False), ([0], [4, 5], False), ([], [4, 5], False),
            ([0, 1, 2], [], False), ([0, 1, 2, 4, 5], [4, 5], False), ([0, 1, 2], [0, 1, 2, 4, 5], False),
            ([0, 1, 2, 2], [4, 5], False), ([0, 1, 2], [4, 4, 5], False), ([0, 1, 2, 6], [4, 5], False),
            ([-1, 0, 1, 2], [4, 5], False), ((0, 1, 2), [4, 5], False), ([0, 1, 2], (4, 5), False),
            ([False, 1, 2], [4, 5], False), ([0, True, 2], [4, 5], False), ([0, 1, 2], [2, 4, 5], True),
            ([1, 2], [4, 5], False), ([0, 1, 2], [5], False), ([0, 1, 2, 10 ** 30], [4, 5], False),
            ([0, 1, 2, "3"], [4, 5], False), ([0, 1, None], [4, 5], False),
        ]:
            value = (whole, ("cut", above, world), ("cut", below, list(world)))
            self.assertEqual(plain_certificate(COUNT, CLAIMS, 4, value), wanted, value)
            self.assertIs(is_span_certificate(COUNT, CLAIMS, 4, value), wanted, value)

    def test_many(self):
        rng = random.Random(15)
        sides = {"way": 0, "cut": 0}
        for count, claims, liars in cases(rng, 120, 5):
            if plain_bounds(count, claims, liars) is None:
                for moment in range(count):
                    self.assertIs(is_span_certificate(count, claims, moment, span_certificate(count, [], moment),
                                                      liars=liars), False)
                continue
            for moment in range(count):
                value = unchanged(self, span_certificate, count, claims, moment, liars=liars)
                self.assertTrue(plain_certificate(count, claims, moment, value, liars), value)
                self.assertIs(is_span_certificate(count, claims, moment, value, liars=liars), True)
                for side in value[1:]:
                    sides[side[0]] += 1
                    self.assertLessEqual(len(side[1]), count)
                    self.assertIs(type(side), tuple)
            judge, plain = self.judge(count, claims, count - 1, liars)
            check_judge(self, judge, plain, list(spoiled(value))[::7])
        self.assertGreater(min(sides.values()), 80)

    def test_no_list_stands_at_two_places(self):
        for moment in range(COUNT):
            value = span_certificate(COUNT, CLAIMS, moment)
            found = boxes(value)
            self.assertEqual(len({id(box) for box in found}), len(found))
            value[1][2].clear()
            value[2][1].append(0)
            self.assertTrue(plain_certificate(COUNT, CLAIMS, moment, span_certificate(COUNT, CLAIMS, moment)))


if __name__ == "__main__":
    unittest.main()
