"""Points 29 to 32 and 36, and the interface's liars.py."""

import inspect
import random
import unittest

from clockverdict.errors import TooManyLiars
from clockverdict.liars import (case_against, excuses, is_case, least_count, least_excuses, roles, small_sets)
from tests.claiming import plain_bounds
from tests.judging import excuses_of, good_case, least_of, liar_cases, plain_case, roles_of, sets_of
from tests.support import ODD_VALUES, boxes, caught, check_judge, spoiled, unchanged


def at_times(**told):
    """For each owner the claims that moment 1 is exactly at a time."""
    claims = []
    for owner, t in told.items():
        claims.append((0, 1, (t, 1), owner))
        claims.append((1, 0, (-t, 1), owner))
    return claims


# a and b say 5, c says 6, d says 7.
SPLIT = at_times(a=5, b=5, c=6, d=7)
FOUR = ["d", "b", "a", "c"]
# Six owners, of whom no two agree.
SIX = at_times(a=1, b=2, c=3, d=4, e=5, f=6)
ALL = ["f", "e", "d", "c", "b", "a"]


class SetsTest(unittest.TestCase):
    def test_the_order(self):
        self.assertEqual(list(small_sets(["b", "a"], 0)), [()])
        self.assertEqual(list(small_sets(["b", "a"], 1)), [(), ("a",), ("b",)])
        self.assertEqual(list(small_sets(["b", "a"], 2)), [(), ("a",), ("b",), ("a", "b")])
        self.assertEqual(list(small_sets(["b", "a"], 6)), [(), ("a",), ("b",), ("a", "b")])
        self.assertEqual(list(small_sets([], 0)), [()])
        self.assertEqual(list(small_sets([], 3)), [()])
        self.assertEqual(list(small_sets(["c", "a10", "a9", "b"], 2)), [
            (), ("a10",), ("a9",), ("b",), ("c",), ("a10", "a9"), ("a10", "b"), ("a10", "c"), ("a9", "b"), ("a9", "c"),
            ("b", "c")])

    def test_many(self):
        rng = random.Random(41)
        for _ in range(100):
            names = rng.sample(ALL + ["a1", "zz", "clock"], rng.randint(0, 6))
            kept = list(names)
            for most in range(7):
                told = list(small_sets(names, most))
                self.assertEqual(told, sets_of(names, most))
                self.assertEqual(list(small_sets(sorted(names), most)), told)
                self.assertTrue(all([type(chosen) is tuple for chosen in told]))
            self.assertEqual(names, kept)
        self.assertEqual(len(list(small_sets(ALL, 6))), 64)
        self.assertEqual(len(list(small_sets(ALL, 3))), 42)

    def test_it_is_a_generator(self):
        self.assertTrue(inspect.isgeneratorfunction(small_sets))
        self.assertTrue(inspect.isgenerator(small_sets(ALL, 2)))


class ExcuseTest(unittest.TestCase):
    def test_by_hand(self):
        self.assertEqual(excuses(2, SPLIT, FOUR, 0), [])
        self.assertEqual(excuses(2, SPLIT, FOUR, 1), [])
        self.assertEqual(unchanged(self, excuses, 2, SPLIT, FOUR, 2), [("c", "d")])
        self.assertEqual(unchanged(self, excuses, 2, SPLIT, FOUR, 3),
                         [("c", "d"), ("a", "b", "c"), ("a", "b", "d"), ("a", "c", "d"), ("b", "c", "d")])
        self.assertEqual(unchanged(self, least_excuses, 2, SPLIT, FOUR, 3),
                         [("c", "d"), ("a", "b", "c"), ("a", "b", "d")])
        self.assertEqual(least_excuses(2, SPLIT, FOUR, 6), [("c", "d"), ("a", "b", "c"), ("a", "b", "d")])
        self.assertEqual(least_excuses(2, SPLIT, FOUR, 1), [])
        self.assertEqual(excuses(2, [], FOUR, 1), [(), ("a",), ("b",), ("c",), ("d",)])
        self.assertEqual(least_excuses(2, [], FOUR, 1), [()])
        self.assertEqual(excuses(1, [], [], 3), [()])
        self.assertEqual(least_count(2, SPLIT, FOUR), 2)
        self.assertEqual(least_count(2, SPLIT, ["d", "c"]), 2)
        self.assertIsNone(least_count(2, SPLIT, ["d"]))
        self.assertIsNone(least_count(2, SPLIT, ["a", "b", "c"][1:]))
        self.assertEqual(least_count(2, SPLIT, ["x", "a", "b", "c"]), 3)
        self.assertEqual(least_count(2, SIX, ALL), 5)
        self.assertIsNone(least_count(2, SIX, ALL[:4]))
        self.assertEqual(least_count(1, [], []), 0)
        self.assertIsNone(least_count(1, [(0, 0, (-1, 1), "")], ALL))
        self.assertEqual(least_count(1, [(0, 0, (-1, 1), "a")], ALL), 1)

    def test_roles_by_hand(self):
        self.assertEqual(unchanged(self, roles, 2, SPLIT, FOUR, 2),
                         {"a": "honest", "b": "honest", "c": "liar", "d": "liar"})
        self.assertEqual(roles(2, SPLIT, FOUR, 3), {name: "open" for name in FOUR})
        self.assertEqual(roles(2, at_times(a=5, b=5, c=6), ["c", "x", "b", "a"], 1),
                         {"a": "honest", "b": "honest", "c": "liar", "x": "honest"})
        self.assertEqual(roles(2, at_times(a=5, b=5, c=6), ["c", "b", "x"], 2), {"b": "open", "c": "liar", "x": "open"})
        self.assertEqual(roles(2, [], ["b", "a"], 0), {"a": "honest", "b": "honest"})
        self.assertEqual(roles(2, [], ["b", "a"], 1), {"a": "open", "b": "open"})
        self.assertEqual(roles(2, at_times(a=5), [], 2), {})
        self.assertEqual(list(roles(2, SPLIT, FOUR, 3)), ["a", "b", "c", "d"])

    def test_many(self):
        rng = random.Random(42)
        without = 0
        for count, claims, names, most in liar_cases(rng, 250):
            for limit in (most, rng.randint(0, 6)):
                wanted = excuses_of(count, claims, names, limit)
                self.assertEqual(unchanged(self, excuses, count, claims, names, limit), wanted)
                least = [one for one in wanted if not any([set(other) < set(one) for other in wanted])]
                self.assertEqual(unchanged(self, least_excuses, count, claims, names, limit), least)
                if wanted:
                    told = unchanged(self, roles, count, claims, names, limit)
                    self.assertEqual(told, roles_of(wanted, names))
                    self.assertEqual(list(told), sorted(names))
                else:
                    without += 1
                    error = caught(self, TooManyLiars, roles, count, claims, names, limit)
                    self.assertTrue(plain_case(claims, names, limit, error.rings))
                    self.assertIs(is_case(claims, names, limit, error.rings), True)
                    self.assertLessEqual(max([len(ring) for ring in error.rings]), count)
            self.assertEqual(least_count(count, claims, names), least_of(count, claims, names))
        self.assertGreater(without, 100)

    def test_the_rings_of_an_error_are_new_for_each_call(self):
        first = caught(self, TooManyLiars, roles, 2, SPLIT, FOUR, 1)
        again = caught(self, TooManyLiars, roles, 2, SPLIT, FOUR, 1)
        self.assertIs(first.rings, first.rings)
        self.assertIs(type(first.rings), list)
        self.assertTrue(all([type(ring) is list for ring in first.rings]))
        parts = boxes(first.rings) + boxes(again.rings)
        self.assertEqual(len({id(part) for part in parts}), len(parts))
        first.rings[0].clear()
        first.rings.pop()
        self.assertTrue(plain_case(SPLIT, FOUR, 1, again.rings))
        self.assertTrue(plain_case(SPLIT, FOUR, 1, caught(self, TooManyLiars, roles, 2, SPLIT, FOUR, 1).rings))


class CaseTest(unittest.TestCase):
    def check(self, count, claims, names, most, liars=()):
        """The case, or None, as the excuses want it; True if there is a case."""
        value = unchanged(self, case_against, count, claims, names, most, liars=liars)
        if excuses_of(count, claims, names, most, liars):
            self.assertIsNone(value)
            return False
        self.assertTrue(good_case(claims, names, most, value, count, liars), value)
        self.assertIs(is_case(claims, names, most, value, liars=liars), True)
        return True

    def test_by_hand(self):
        self.assertIsNone(case_against(2, SPLIT, FOUR, 2))
        self.assertIsNone(case_against(2, SPLIT, FOUR, 0, liars=["c", "d"]))
        self.assertIsNone(case_against(2, SPLIT, FOUR, 1, liars=("c",)))
        self.assertIsNone(case_against(2, SPLIT, [], 0, liars=("c", "d")))
        self.assertIsNone(case_against(1, [], [], 0))
        for most, liars in [(0, ()), (1, ()), (0, ["c"]), (0, ("d", "x")), (1, ["a"]), (1, ["x"]), (1, ("a",))]:
            self.assertTrue(self.check(2, SPLIT, FOUR, most, liars))
        self.assertTrue(self.check(2, SPLIT, ["c"], 1))
        self.assertTrue(self.check(2, SPLIT, ["c"], 0, ["a", "b"]))
        self.assertTrue(self.check(2, SPLIT, ["x"], 6, ["a", "b"]))
        self.assertFalse(self.check(2, SPLIT, ["c"], 1, ["a", "b"]))
        self.assertFalse(self.check(2, SPLIT, ["c"], 6, ["d"]))

    def test_one_ring_serves_all_liar_sets(self):
        claims = [(0, 1, (1, 1), ""), (1, 0, (-2, 1), "")] + SIX
        for most in range(7):
            value = case_against(2, claims, ALL, most)
            self.assertTrue(good_case(claims, ALL, most, value, 2))
        self.assertEqual(case_against(1, [(0, 0, (-1, 1), "")], ALL, 6), [[0]])

    def test_many_rings(self):
        for most in range(5):
            self.assertTrue(self.check(2, SIX, ALL, most))
        self.assertEqual(len(case_against(2, SIX, ALL, 4)), 15)
        for most in (5, 6):
            self.assertFalse(self.check(2, SIX, ALL, most))
        for most, liars in [(3, ["a"]), (2, ["a"]), (3, ("f", "x")), (1, ["a", "b"]), (2, ("c", "a")), (0, ALL[:4])]:
            self.assertTrue(self.check(2, SIX, ALL, most, liars))
        for most, liars in [(4, ["a"]), (3, ["a", "b"]), (0, ALL[1:]), (0, ALL), (2, ("a", "c", "e"))]:
            self.assertFalse(self.check(2, SIX, ALL, most, liars))

    def test_many(self):
        rng = random.Random(43)
        seen = {True: 0, False: 0}
        for count, claims, names, most in liar_cases(rng, 250):
            seen[self.check(count, claims, names, most)] += 1
            liars = rng.choice([list, tuple])(rng.sample(names + ["zz", "q"], rng.randint(1, 2)))
            seen[self.check(count, claims, names, rng.randint(0, 6), liars)] += 1
        self.assertGreater(min(seen.values()), 70)


class JudgeTest(unittest.TestCase):
    def judge(self, claims, names, most, values, liars=()):
        return check_judge(self, lambda value: is_case(claims, names, most, value, liars=liars),
                           lambda value: plain_case(claims, names, most, value, liars), values)

    def test_one_thing_wrong(self):
        for most, liars in [(0, ()), (1, ()), (1, ["a"]), (0, ("c",))]:
            value = case_against(2, SPLIT, FOUR, most, liars=liars)
            counts = self.judge(SPLIT, FOUR, most, list(spoiled(value)) + [value], liars)
            self.assertGreater(counts[False], 80)
            self.assertGreater(counts[True], 0)

    def test_a_case_for_other_arguments(self):
        values = [case_against(2, SIX, ALL, most) for most in range(5)]
        values += [case_against(2, SIX, ALL, most, liars=["a"]) for most in range(4)]
        for most in range(7):
            for liars in ((), ["a"], ("b",), ["a", "f"], ("x",)):
                for names in (ALL, ALL[:3], []):
                    self.judge(SIX, names, most, values, liars)

    def test_odd_values(self):
        for claims in ([], SPLIT, [(0, 0, (-1, 1), "")]):
            self.judge(claims, FOUR, 1, ODD_VALUES)

    def test_how_many_items(self):
        claims = [(0, 0, (-1, 1), "")] + SPLIT
        for many, wanted in [(0, False), (1, True), (2, True), (63, True), (64, True), (65, False), (66, False),
                             (1000, False), (9000, False)]:
            self.assertIs(is_case(claims, FOUR, 2, [[0]] * many), wanted)
            self.assertIs(is_case(claims, FOUR, 2, [[0] for _ in range(many)], liars=["a"]), wanted)
        self.assertIs(is_case(claims, FOUR, 2, [[0]] * 64 + [[]]), False)
        self.assertIs(is_case(claims, FOUR, 2, [[0]] * 63 + [[1]]), False)
        self.assertIs(is_case(claims, FOUR, 2, [[0]] * 63 + [[0, 0, 0]]), True)
        self.assertIs(is_case(claims, FOUR, 2, ([0],)), False)
        self.assertIs(is_case(claims, FOUR, 2, [(0,)]), False)
        self.assertIs(is_case(claims, FOUR, 2, [[False]]), False)
        self.assertIs(is_case(claims, FOUR, 2, [[0] * 5000]), True)

    def test_every_item_is_a_ring_and_every_set_has_one(self):
        # The rings of two owners each, as [claim of the lesser high, claim of the greater low].
        ab, ac, bc, ad = [0, 3], [0, 5], [2, 5], [0, 7]
        claims = at_times(a=1, b=2, c=3, d=4)
        names = ["a", "b", "c"]
        for value, most, liars, wanted in [
            ([ab], 0, (), True), ([ab], 1, (), False), ([ab, ac], 1, (), False), ([ab, ac, bc], 1, (), True),
            ([ab, ac, bc], 2, (), False), ([bc, ab], 1, (), False), ([bc, ad], 1, (), True), ([bc, ad], 2, (), False),
            ([ab], 0, ("d",), True), ([ab], 0, ("a",), False), ([ab, bc], 0, ["a"], False), ([bc], 0, ["a"], True),
            ([bc], 1, ["a"], False), ([bc, [2, 7], [4, 7]], 1, ["a"], True), ([bc, [2, 7]], 1, ["a"], False),
            ([[4, 7]], 0, ["a", "b"], True), ([[4, 7]], 1, ["a", "b"], False), ([[2, 7]], 1, ["a", "c"], False),
            ([ab, [0]], 0, (), False), ([ab, []], 0, (), False), ([ab, [0, 1]], 0, (), False), ([ab[::-1]], 0, (), True),
            ([[0, 3, 0, 3]], 0, (), True), ([[0, 3, 0]], 0, (), False), ([ab, [0, 3, 0, 5]], 0, (), True),
        ]:
            self.assertEqual(plain_case(claims, names, most, value, liars), wanted, (value, most, liars))
            self.assertIs(is_case(claims, names, most, value, liars=liars), wanted, (value, most, liars))

    def test_many(self):
        rng = random.Random(44)
        for count, claims, names, most in liar_cases(rng, 60):
            value = case_against(count, claims, names, most)
            if value is not None:
                self.judge(claims, names, most, list(spoiled(value))[::5])
                self.judge(claims, names, most, [value], names[:1])
                self.judge(claims, names, min(6, most + 1), [value])

    def test_left_out_liars(self):
        value = case_against(2, SPLIT, FOUR, 1)
        self.assertEqual(value, case_against(2, SPLIT, FOUR, 1, liars=()))
        self.assertIs(is_case(SPLIT, FOUR, 1, value), is_case(SPLIT, FOUR, 1, value, liars=()))
        self.assertIsNotNone(plain_bounds(2, SPLIT, ("c", "d")))


if __name__ == "__main__":
    unittest.main()
