"""Points 22, 23, 24, 26 and 28, and the interface's worlds.py."""

import random
import unittest

from clockverdict.worlds import broken, is_ring, is_way, is_world, liars_in, settle, way_sum
from tests.claiming import cases, holds, plain_bounds, plain_ring, plain_sum, plain_way, plain_world
from tests.support import ODD_VALUES, check_judge, rat, spoiled, unchanged

# Moment 1 is from 9 to 11 by "a", moment 2 from 1 to 2 behind it; "b" says that moment 2 is at most 5;
# moment 3 has a claim to itself alone, moment 4 has none.
CLAIMS = [(0, 1, (11, 1), "a"), (1, 0, (-9, 1), "a"), (1, 2, (2, 1), ""), (2, 1, (-1, 1), ""), (0, 2, (5, 1), "b"),
          (3, 3, (0, 1), "a")]
WORLD = [(0, 1), (19, 2), (11, 1), (-7, 1), (1, 3)]


class IsWorldTest(unittest.TestCase):
    def test_a_world_fits_if_each_live_claim_holds(self):
        self.assertIs(is_world(5, CLAIMS, WORLD), False)
        self.assertIs(is_world(5, CLAIMS, WORLD, liars=["b"]), True)
        self.assertIs(is_world(5, CLAIMS, WORLD, liars=("b",)), True)
        self.assertIs(is_world(5, CLAIMS, WORLD, liars=("a", "zz")), False)
        self.assertIs(is_world(5, CLAIMS, WORLD, liars=["b", "zz", "a"]), True)
        self.assertIs(is_world(5, [], WORLD), True)
        self.assertIs(is_world(1, [], [(0, 1)]), True)
        self.assertIs(is_world(1, [(0, 0, (0, 1), "a")], [(0, 1)]), True)
        self.assertIs(is_world(1, [(0, 0, (-1, 9), "a")], [(0, 1)]), False)
        self.assertIs(is_world(1, [(0, 0, (-1, 9), "a")], [(0, 1)], liars=["a"]), True)

    def test_claims_that_hold_with_nothing_to_spare(self):
        claims = [(0, 1, (1, 3), "a"), (1, 0, (-1, 3), "a")]
        self.assertIs(is_world(2, claims, [(0, 1), (1, 3)]), True)
        self.assertIs(is_world(2, claims, [(0, 1), (333333, 1000000)]), False)
        self.assertIs(is_world(2, claims, [(0, 1), (333334, 1000000)]), False)
        self.assertIs(is_world(2, claims, [(0, 1), (10 ** 500 + 1, 3 * 10 ** 500)]), False)
        self.assertIs(is_world(2, claims[:1], [(0, 1), (10 ** 500 - 3, 3 * 10 ** 500)]), True)

    def test_wrong_values(self):
        for value in [(), [], WORLD[:4], WORLD + [(0, 1)], tuple(WORLD), [(1, 1)] + WORLD[1:], [(0, 2)] + WORLD[1:],
                      [None] + WORLD[1:], [(False, 1)] + WORLD[1:], [[0, 1]] + WORLD[1:], WORLD[:4] + [None],
                      WORLD[:4] + [(True, 1)], WORLD[:4] + [(2, 6)], [(0, 1)] * 5, None, True, 0, "", {}]:
            self.assertIs(is_world(5, CLAIMS, value, liars=["b"]), False)
        self.assertIs(is_world(1, [], []), False)
        self.assertIs(is_world(1, [], [(1, 1)]), False)

    def test_one_thing_wrong(self):
        for liars in (["b"], ("b",), ("a", "b"), ()):
            counts = check_judge(self, lambda value: is_world(5, CLAIMS, value, liars=liars),
                                 lambda value: plain_world(5, CLAIMS, value, liars), list(spoiled(WORLD)) + [WORLD])
            self.assertGreater(counts[False], 100)

    def test_odd_values(self):
        for count in (1, 2, 5):
            check_judge(self, lambda value: is_world(count, [], value), lambda value: plain_world(count, [], value),
                        ODD_VALUES)


class BrokenTest(unittest.TestCase):
    def test_whoever_owns_them(self):
        self.assertEqual(unchanged(self, broken, CLAIMS, WORLD), [4])
        self.assertEqual(unchanged(self, liars_in, CLAIMS, WORLD), ["b"])
        self.assertEqual(broken(CLAIMS, [(0, 1)] * 5), [1, 3])
        self.assertEqual(unchanged(self, liars_in, CLAIMS, [(0, 1)] * 5), ["", "a"])
        self.assertEqual(broken(CLAIMS, [(0, 1), (12, 1), (20, 1), (0, 1), (0, 1)]), [0, 2, 4])
        self.assertEqual(liars_in(CLAIMS, [(0, 1), (12, 1), (20, 1), (0, 1), (0, 1)]), ["", "a", "b"])
        self.assertEqual(broken([], WORLD), [])
        self.assertEqual(liars_in([], WORLD), [])
        own = [(0, 0, (-1, 1), "b"), (0, 0, (-1, 1), "a"), (0, 0, (-1, 1), "b"), (0, 0, (0, 1), "c")]
        self.assertEqual(broken(own, [(0, 1)]), [0, 1, 2])
        self.assertEqual(liars_in(own, [(0, 1)]), ["a", "b"])

    def test_many(self):
        rng = random.Random(8)
        for count, claims, liars in cases(rng, 200):
            world = [(0, 1)] + [rat(rng.randint(-9, 9), rng.randint(1, 3)) for _ in range(count - 1)]
            wanted = [at for at in range(len(claims)) if not holds(claims[at], world)]
            self.assertEqual(unchanged(self, broken, claims, world), wanted)
            self.assertEqual(unchanged(self, liars_in, claims, world), sorted({claims[at][3] for at in wanted}))
            self.assertIs(is_world(count, claims, world, liars=liars), plain_world(count, claims, world, liars))


class WayTest(unittest.TestCase):
    def test_ways(self):
        for way, start, goal, wanted in [
            ([0, 2], 0, 2, True), ([0], 0, 1, True), ([4, 3, 1], 0, 0, True), ([0, 2, 3, 2], 0, 2, True),
            ([5, 5, 5], 3, 3, True), ([0, 1, 0, 1, 0], 0, 1, True), ([2, 0], 0, 2, False), ([0, 2], 0, 1, False),
            ([0, 2], 1, 2, False), ([0, 3], 0, 1, False), ([0, 4], 0, 2, False), ([6], 0, 1, False),
            ([-1], 3, 3, False), ([-6], 0, 1, False), ([False], 0, 1, False), ([True], 1, 0, False),
            ([0, None], 0, 1, False), ((0, 2), 0, 2, False), ([[0], 2], 0, 2, False), ({0: 0}, 0, 1, False),
            ([(0, 1)], 0, 1, False), ("", 0, 0, False), (None, 0, 0, False), ([0, 10 ** 30], 0, 1, False),
            (["0"], 0, 1, False), (0, 0, 1, False), ((), 0, 0, False), ({}, 0, 0, False), (False, 0, 0, False),
        ]:
            self.assertIs(is_way(CLAIMS, way, start, goal), wanted, (way, start, goal))

    def test_the_empty_way(self):
        for moment in (0, 1, 5, 16, 999999):
            self.assertIs(is_way(CLAIMS, [], moment, moment), True)
            self.assertIs(is_way([], [], moment, moment, liars=["a"]), True)
            self.assertIs(is_way(CLAIMS, [], moment, moment + 1), False)
        for moment in (-1, -5):
            self.assertIs(is_way(CLAIMS, [], moment, moment), False)
        self.assertEqual(way_sum(CLAIMS, []), (0, 1))
        self.assertEqual(way_sum([], []), (0, 1))

    def test_liars_own_no_live_claims(self):
        for liars in (["a"], ("a",), ("zz", "a")):
            self.assertIs(is_way(CLAIMS, [0, 2], 0, 2, liars=liars), False)
            self.assertIs(is_way(CLAIMS, [4, 3], 0, 1, liars=liars), True)
        self.assertIs(is_way(CLAIMS, [4, 3], 0, 1, liars=["b"]), False)
        self.assertIs(is_way(CLAIMS, [0, 2], 0, 2, liars=("zz", "b")), True)

    def test_sums(self):
        self.assertEqual(unchanged(self, way_sum, CLAIMS, [0, 2]), (13, 1))
        self.assertEqual(way_sum(CLAIMS, [0, 2, 3, 2, 3, 2]), (15, 1))
        self.assertEqual(way_sum([(0, 0, (1, 3), ""), (0, 0, (1, 6), "")], [0, 1, 0]), (5, 6))
        self.assertEqual(way_sum([(0, 0, (1, 3), "")], [0] * 9000), (3000, 1))

    def test_one_thing_wrong(self):
        for way, start, goal in [([0, 2, 3, 2], 0, 2), ([4, 3, 1], 0, 0), ([5], 3, 3), ([], 2, 2), ([1, 0], 1, 1)]:
            for liars in ((), ["b"], ("a",)):
                check_judge(self, lambda value: is_way(CLAIMS, value, start, goal, liars=liars),
                            lambda value: plain_way(CLAIMS, value, start, goal, liars), [way] + list(spoiled(way)))
        for start, goal in [(0, 0), (0, 1), (3, 3)]:
            check_judge(self, lambda value: is_way(CLAIMS, value, start, goal),
                        lambda value: plain_way(CLAIMS, value, start, goal), ODD_VALUES)


class RingTest(unittest.TestCase):
    def test_rings(self):
        for ring, wanted in [
            ([4, 3, 1], True), ([3, 1, 4], True), ([1, 4, 3], True), ([4, 3, 1, 4, 3, 1], True), ([4, 3, 1, 0, 1], True),
            ([0, 1], False), ([2, 3], False), ([5], False), ([5, 5], False), ([], False), ([4, 3], False),
            ((4, 3, 1), False), ([4, 3, True], False), ([4, 1, 3], False), ([4, 3, 1, 0], False), ([4, 3, 7], False),
            ([-2, 3, 1], False), (None, False), ([None], False), ([[4], 3, 1], False), ({}, False), ("", False),
            ([10 ** 30], False), ([-1], False), ([False, 1], False), (True, False), (1, False), ((), False),
        ]:
            self.assertIs(is_ring(CLAIMS, ring), wanted, ring)

    def test_a_sum_of_zero_is_no_ring(self):
        claims = [(0, 1, (1, 3), ""), (1, 0, (-1, 3), ""), (1, 0, (-333334, 1000000), "")]
        self.assertIs(is_ring(claims, [0, 1]), False)
        self.assertIs(is_ring(claims, [0, 2]), True)
        self.assertIs(is_ring(claims, [0, 2, 0, 1]), True)

    def test_a_ring_has_live_claims_alone(self):
        for liars in (["a"], ("a",), ["b"], ("b", "zz"), ("a", "b")):
            self.assertIs(is_ring(CLAIMS, [4, 3, 1], liars=liars), False)
        for liars in (["zz"], ("c",), ()):
            self.assertIs(is_ring(CLAIMS, [4, 3, 1], liars=liars), True)
        self.assertIs(is_ring([(2, 2, (-1, 1), "a")], [0]), True)
        self.assertIs(is_ring([(2, 2, (-1, 1), "a")], [0], liars=["a"]), False)
        self.assertIs(is_ring([], [0]), False)

    def test_one_thing_wrong(self):
        for liars in ((), ["zz"], ("b",)):
            check_judge(self, lambda value: is_ring(CLAIMS, value, liars=liars),
                        lambda value: value != [] and plain_ring(CLAIMS, value, liars),
                        [[4, 3, 1]] + list(spoiled([4, 3, 1])) + ODD_VALUES)


class SettleTest(unittest.TestCase):
    def check_settled(self, count, claims, liars=()):
        kind, found = unchanged(self, settle, count, claims, liars=liars)
        fits = plain_bounds(count, claims, liars) is not None
        self.assertEqual(kind, "world" if fits else "ring")
        if fits:
            self.assertTrue(plain_world(count, claims, found, liars), (count, claims, liars, found))
            self.assertIs(is_world(count, claims, found, liars=liars), True)
        else:
            self.assertTrue(plain_ring(claims, found, liars), (count, claims, liars, found))
            self.assertIs(is_ring(claims, found, liars=liars), True)
            self.assertLessEqual(len(found), count)
        return kind

    def test_plain_cases(self):
        self.assertEqual(settle(1, []), ("world", [(0, 1)]))
        self.assertEqual(settle(1, [(0, 0, (-1, 1), "a")]), ("ring", [0]))
        self.assertEqual(settle(1, [(0, 0, (0, 1), "a")]), ("world", [(0, 1)]))
        self.assertEqual(settle(1, [(0, 0, (-1, 1), "a")], liars=["a"]), ("world", [(0, 1)]))
        self.assertEqual(settle(2, [(0, 1, (1, 3), ""), (1, 0, (-1, 3), "")]), ("world", [(0, 1), (1, 3)]))
        self.assertIs(type(settle(1, [])), tuple)
        for count in range(1, 18):
            self.assertEqual(self.check_settled(count, []), "world")

    def test_a_ring_that_only_the_liars_break(self):
        for liars, kind in [((), "ring"), (["zz"], "ring"), (["b"], "world"), (("b",), "world"), (("a",), "world"),
                            (["a", "b"], "world")]:
            self.assertEqual(self.check_settled(5, CLAIMS, liars), kind)

    def test_a_ring_far_from_the_zero_moment(self):
        claims = [(3, 4, (1, 1), ""), (4, 5, (1, 2), ""), (5, 3, (-2, 1), "")]
        self.assertEqual(self.check_settled(7, claims), "ring")
        self.assertEqual(sorted(settle(7, claims)[1]), [0, 1, 2])
        self.assertEqual(self.check_settled(7, claims[:2]), "world")
        self.assertEqual(self.check_settled(7, claims[:2] + [(5, 3, (-3, 2), "")]), "world")

    def test_claims_of_a_moment_to_itself(self):
        for w, kind in [((0, 1), "world"), ((1, 9), "world"), ((-1, 9), "ring")]:
            for moment in range(4):
                self.assertEqual(self.check_settled(4, [(moment, moment, w, "a")]), kind)
                self.assertEqual(self.check_settled(4, [(0, 1, (1, 1), ""), (moment, moment, w, "a")]), kind)

    def test_long_ways_and_rings(self):
        for order in (1, -1):
            chain = [(k, k + 1, (-1, 3), "") for k in range(16)][::order]
            self.assertEqual(self.check_settled(17, chain), "world")
            self.assertEqual(self.check_settled(17, chain + [(16, 0, (16, 3), "")]), "world")
            self.assertEqual(self.check_settled(17, chain + [(16, 0, (53333333, 10000000), "")]), "ring")

    def test_many(self):
        rng = random.Random(9)
        kinds = [self.check_settled(*case) for case in cases(rng, 600)]
        self.assertGreater(kinds.count("world"), 150)
        self.assertGreater(kinds.count("ring"), 100)

    def test_many_claims(self):
        rng = random.Random(10)
        for _ in range(6):
            times = [0] + [rng.randint(-10 ** 9, 10 ** 9) for _ in range(16)]
            claims = []
            for _ in range(160):
                a, b = rng.randrange(17), rng.randrange(17)
                d = rng.randint(10 ** 11, 10 ** 12 - 1)
                claims.append((a, b, rat((times[b] - times[a]) * 100 + rng.randint(0, 10 ** 6), d), rng.choice("abc")))
            # The differences stand over different denominators, so most of these are rings.
            self.check_settled(17, claims)
            fitting = [(a, b, rat((times[b] - times[a]) * 10 ** 6 + rng.randint(0, 99), 10 ** 6), c)
                       for a, b, _, c in claims]
            self.assertEqual(self.check_settled(17, fitting), "world")

    def test_what_is_returned_may_be_changed(self):
        for liars in ((), ("b",)):
            first = settle(5, CLAIMS, liars=liars)
            kept = list(first[1])
            first[1].clear()
            self.assertEqual(settle(5, CLAIMS, liars=liars)[1], kept)

    def test_plain_sum_agrees(self):
        rng = random.Random(11)
        for count, claims, _ in cases(rng, 100):
            way = [rng.randrange(len(claims)) for _ in range(9)] if claims else []
            self.assertEqual(way_sum(claims, way), rat(plain_sum(claims, way)))


if __name__ == "__main__":
    unittest.main()
