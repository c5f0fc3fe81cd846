"""Point 71, and the interface's twins.py."""

import itertools
import random
import unittest

from clockverdict.errors import UnknownMoment
from clockverdict.twins import boxed, grid_times, grid_worlds
from clockverdict.verdicts import left_by
from tests.claiming import live, plain_world
from tests.judging import NAMES, lying_claims, sets_of
from tests.support import caught, laid_open, rat, unchanged


# Point 71, written apart from the program.

def plain_grid(count, claims, low, high, liars=()):
    found = []
    for times in itertools.product(range(low, high + 1), repeat=count - 1):
        world = [(0, 1)] + [(t, 1) for t in times]
        if plain_world(count, claims, world, liars):
            found.append(world)
    return found


def plain_times(count, claims, names, most, moment, low, high):
    times = set()
    for liars in sets_of(names, most):
        times |= {world[moment][0] for world in plain_grid(count, claims, low, high, liars)}
    return sorted(times)


def grid_cases(rng, many, whole):
    """Tuples (count, claims, names, most, low, high); whole claims have integers as their w."""
    found = []
    for _ in range(many):
        count = rng.randint(1, 4)
        names = rng.sample(NAMES, rng.randint(0, 3))
        claims = lying_claims(rng, count, names)
        if whole:
            claims = [(a, b, rat(w[0] // w[1]), owner) for a, b, w, owner in claims]
        low = rng.randint(-6, 4)
        found.append((count, claims, names, rng.randint(0, 3), low, low + rng.randint(0, 5)))
    return found


class BoxedTest(unittest.TestCase):
    def test_one_and_several_moments(self):
        claims = [(0, 1, (5, 2), "a"), (2, 0, (-1, 1), "")]
        self.assertEqual(unchanged(self, boxed, 1, [], 3, 9), [])
        self.assertEqual(unchanged(self, boxed, 2, claims[:1], 3, 9),
                         claims[:1] + [(0, 1, (9, 1), ""), (1, 0, (-3, 1), "")])
        self.assertEqual(unchanged(self, boxed, 4, claims, -3, 0),
                         claims + [(0, 1, (0, 1), ""), (1, 0, (3, 1), ""), (0, 2, (0, 1), ""), (2, 0, (3, 1), ""),
                                   (0, 3, (0, 1), ""), (3, 0, (3, 1), "")])
        self.assertEqual(boxed(2, [], 5, 5), [(0, 1, (5, 1), ""), (1, 0, (-5, 1), "")])

    def test_the_claims_that_are_passed_stay_apart(self):
        claims = [(0, 0, (5, 2), "a")]
        found = boxed(1, claims, 0, 1)
        found.append((0, 0, (0, 1), ""))
        self.assertEqual(claims, [(0, 0, (5, 2), "a")])
        self.assertEqual(boxed(1, claims, 0, 1), claims)


class WorldsTest(unittest.TestCase):
    def test_count_1(self):
        for low, high in [(0, 0), (5, 9), (-9, -5), (-1, 1)]:
            self.assertEqual(unchanged(self, grid_worlds, 1, [], low, high), [[(0, 1)]])
            self.assertEqual(unchanged(self, grid_times, 1, [], [], 0, 0, low, high), [0])
            self.assertEqual(grid_worlds(1, [(0, 0, (-1, 1), "a")], low, high), [])
            self.assertEqual(grid_worlds(1, [(0, 0, (-1, 1), "a")], low, high, liars=["a"]), [[(0, 1)]])
            self.assertEqual(grid_times(1, [(0, 0, (-1, 1), "a")], ["a"], 0, 0, low, high), [])
            self.assertEqual(grid_times(1, [(0, 0, (-1, 1), "a")], ["a"], 1, 0, low, high), [0])

    def test_all_worlds_ascending(self):
        self.assertEqual(unchanged(self, grid_worlds, 3, [], -1, 0),
                         [[(0, 1), (-1, 1), (-1, 1)], [(0, 1), (-1, 1), (0, 1)], [(0, 1), (0, 1), (-1, 1)], [(0, 1)] * 3])
        worlds = grid_worlds(3, [], -3, 10)
        self.assertEqual(len(worlds), 14 ** 2)
        self.assertEqual(worlds, sorted(worlds))
        self.assertEqual(grid_worlds(2, [], 9, 11), [[(0, 1), (t, 1)] for t in (9, 10, 11)])

    def test_the_zero_moment_keeps_the_time_0_outside_low_to_high(self):
        for low, high in [(5, 6), (-6, -5)]:
            for world in grid_worlds(3, [], low, high):
                self.assertEqual(world[0], (0, 1))
            self.assertEqual(grid_times(3, [], [], 0, 0, low, high), [0])
            self.assertEqual(grid_times(3, [], [], 0, 1, low, high), [low, high])

    def test_w_that_are_no_integers(self):
        claims = [(0, 1, (5, 2), "a"), (1, 0, (-3, 2), "a"), (1, 2, (1, 3), "b"), (2, 1, (1, 3), "b")]
        self.assertEqual(grid_worlds(3, claims, -5, 5), [[(0, 1), (2, 1), (2, 1)]])
        self.assertEqual(grid_times(3, claims, ["a", "b"], 0, 2, -5, 5), [2])
        self.assertEqual(grid_worlds(3, [(1, 2, (1, 3), "b"), (2, 1, (-1, 4), "b")], -5, 5), [])

    def test_liars(self):
        claims = [(0, 1, (1, 1), "a"), (1, 0, (-1, 1), "a"), (0, 1, (2, 1), "b"), (1, 0, (-2, 1), "b"), (0, 1, (9, 1), "")]
        self.assertEqual(grid_worlds(2, claims, 0, 3), [])
        self.assertEqual(grid_worlds(2, claims, 0, 3, liars=["a"]), [[(0, 1), (2, 1)]])
        self.assertEqual(grid_worlds(2, claims, 0, 3, liars=("b", "zz")), [[(0, 1), (1, 1)]])
        self.assertEqual(len(grid_worlds(2, claims, 0, 20, liars=["b", "a"])), 10)
        self.assertEqual(grid_times(2, claims, ["a", "b"], 1, 1, 0, 3), [1, 2])
        self.assertEqual(grid_times(2, claims, ["a"], 1, 1, 0, 3), [2])
        self.assertEqual(grid_times(2, claims, ["a"], 3, 1, 0, 3), [2])
        self.assertEqual(grid_times(2, claims, ["a", "b"], 2, 1, 7, 12), [7, 8, 9])
        self.assertEqual(grid_times(2, claims, [], 3, 1, 0, 3), [])
        self.assertEqual(grid_worlds(2, claims, 0, 3), grid_worlds(2, claims, 0, 3, liars=()))

    def test_a_claim_of_nobody_and_one_of_no_suspect_always_hold(self):
        for owner in ("", "zz"):
            claims = [(0, 1, (1, 1), owner), (1, 0, (-1, 1), "a")]
            self.assertEqual(grid_times(2, claims, ["a"], 1, 1, -2, 5), [-2, -1, 0, 1])

    def test_worlds_against_trying_all(self):
        rng = random.Random(71)
        used = 0
        for count, claims, names, _, low, high in grid_cases(rng, 250, False):
            liars = rng.choice([list, tuple])(rng.sample(names + ["zz"], rng.randint(0, len(names))))
            found = grid_worlds(count, claims, low, high, liars=liars)
            self.assertEqual(laid_open(found), laid_open(plain_grid(count, claims, low, high, liars)))
            self.assertEqual(len({id(world) for world in found}), len(found))
            used += len(found) > 1
        self.assertGreater(used, 30)

    def test_times_against_worlds_over_all_liar_sets(self):
        rng = random.Random(711)
        used = 0
        for count, claims, names, most, low, high in grid_cases(rng, 300, False):
            for moment in range(count):
                found = unchanged(self, grid_times, count, claims, names, most, moment, low, high)
                self.assertEqual(found, plain_times(count, claims, names, most, moment, low, high))
                self.assertTrue(all([type(t) is int for t in found]))
                union = set()
                for chosen in sets_of(names, most):
                    union |= {world[moment][0] for world in grid_worlds(count, claims, low, high, liars=chosen)}
                self.assertEqual(found, sorted(union))
                used += 1 < len(found) < high - low + 1
        self.assertGreater(used, 20)

    def test_times_against_the_times_left_under_the_boxed_claims(self):
        rng = random.Random(712)
        used = 0
        for count, claims, names, most, low, high in grid_cases(rng, 120, True):
            more = boxed(count, claims, low, high)
            for moment in range(count):
                left = left_by(count, more, names, most, moment)
                found = grid_times(count, claims, names, most, moment, low, high)
                self.assertEqual(found, [t for t in range(min(low, 0) - 2, max(high, 0) + 3) if left.holds((t, 1))])
                used += len(found) > 0
                self.assertEqual(found, grid_times(count, more, names, most, moment, low, high))
        self.assertGreater(used, 60)

    def test_live_claims_alone_count(self):
        claims = [(0, 1, (-9, 1), "a"), (0, 1, (1, 1), "b")]
        self.assertEqual(grid_worlds(2, claims, 0, 3, liars=["a"]), grid_worlds(2, live(claims, ["a"]), 0, 3))

    def test_moments_that_there_are_not(self):
        for count, moment in [(1, 1), (1, -1), (3, 3), (3, -1), (3, 17), (3, 10 ** 12 - 1)]:
            for low, high in [(0, 1), (5, 5)]:
                error = caught(self, UnknownMoment, grid_times, count, [], ["a"], 1, moment, low, high)
                self.assertEqual(error.moment, moment)

    def test_what_is_returned_may_be_changed(self):
        found = grid_worlds(3, [], 0, 1)
        found[0][1] = (9, 1)
        found.pop()
        self.assertEqual(len(grid_worlds(3, [], 0, 1)), 4)
        self.assertEqual(grid_worlds(3, [], 0, 1)[0], [(0, 1)] * 3)


if __name__ == "__main__":
    unittest.main()
