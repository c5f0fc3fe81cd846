"""Points 33 to 36, and the interface's verdicts.py."""

import random
import unittest

from clockverdict.bounds import narrowest
from clockverdict.covers import Cover
from clockverdict.errors import TooManyLiars, UnknownMoment, UnknownName
from clockverdict.liars import case_against, is_case, roles
from clockverdict.verdicts import (is_least_certificate, is_left_certificate, is_role_certificate, is_time_certificate,
                                   least_certificate, left_by, left_certificate, pinned, role_certificate,
                                   time_certificate, verdict_span)
from tests.covering import plain_holds, times_around
from tests.judging import (excuses_of, full_sets, good_case, least_of, left_of, liar_cases, plain_least, plain_left,
                           plain_pinned, plain_role, plain_time, roles_of)
from tests.support import ODD_VALUES, boxes, caught, check_judge, rat, spoiled, unchanged
from tests.test_liars import ALL, FOUR, SIX, SPLIT, at_times

# The claims of the document's example: a says 0 to 2, b 1 to 3, c 5 to 6.
VOTES = [(0, 1, (2, 1), "a"), (1, 0, (0, 1), "a"), (0, 1, (3, 1), "b"), (1, 0, (-1, 1), "b"), (0, 1, (6, 1), "c"),
         (1, 0, (-5, 1), "c")]
ABC = ["a", "b", "c"]
# Moment 2 is bound to moment 1 by nobody's claims; x is no suspect.
LINKED = VOTES + [(1, 2, (1, 1), ""), (2, 1, (0, 1), "x")]
# No liar set of any size makes these fit.
HOPELESS = VOTES + [(2, 2, (-1, 1), "x")]


class PinnedTest(unittest.TestCase):
    def test_two_more_claims(self):
        for claims in ([], VOTES, [(9, 9, (1, 1), "a")]):
            for moment in (0, 1, 2, 10 ** 11):
                for at in [(0, 1), (5, 2), (-7, 3)]:
                    told = unchanged(self, pinned, claims, moment, at)
                    self.assertEqual(told, plain_pinned(claims, moment, at))
                    self.assertEqual(len(told), len(claims) + 2)
        self.assertEqual(pinned([], 3, (5, 2)), [(0, 3, (5, 2), ""), (3, 0, (-5, 2), "")])

    def test_it_is_new(self):
        claims = list(VOTES)
        pinned(claims, 1, (1, 1)).clear()
        self.assertEqual(claims, VOTES)


class MomentTest(unittest.TestCase):
    def test_unknown_moments(self):
        for count, claims, names in [(2, VOTES, ABC), (3, LINKED, ABC), (3, HOPELESS, []), (1, [], [])]:
            for moment in (-1, count, count + 5, 10 ** 11):
                for call, more in [(left_by, ()), (verdict_span, ()), (left_certificate, ()), (time_certificate, ((1, 1),))]:
                    for most in (0, 3):
                        error = caught(self, UnknownMoment, call, count, claims, names, most, moment, *more)
                        self.assertEqual(error.moment, moment)


class LeftTest(unittest.TestCase):
    def test_by_hand(self):
        for most, moment, wanted in [
            (0, 1, []), (1, 1, [((1, 1), (2, 1))]), (2, 1, [((0, 1), (3, 1)), ((5, 1), (6, 1))]),
            (3, 1, [(None, None)]), (1, 2, [((1, 1), (3, 1))]), (2, 2, [((0, 1), (4, 1)), ((5, 1), (7, 1))]),
            (0, 0, []), (1, 0, [((0, 1), (0, 1))]), (3, 0, [((0, 1), (0, 1))]),
        ]:
            told = left_by(3, LINKED, ["c", "a", "b"], most, moment)
            self.assertIs(type(told), Cover)
            self.assertEqual(list(told), wanted)
            span = (wanted[0][0], wanted[-1][1]) if wanted else None
            self.assertEqual(verdict_span(3, LINKED, ["c", "a", "b"], most, moment), span)
        self.assertEqual(list(left_by(3, LINKED, ["c"], 1, 1)), [((1, 1), (2, 1))])
        self.assertEqual(list(left_by(3, LINKED, ["a"], 3, 1)), [])
        self.assertEqual(list(left_by(1, [], [], 0, 0)), [((0, 1), (0, 1))])
        self.assertEqual(list(left_by(2, [], [], 2, 1)), [(None, None)])
        self.assertEqual(list(left_by(3, HOPELESS, ABC, 3, 0)), [])
        self.assertIsNone(verdict_span(3, HOPELESS, ABC, 3, 0))

    def test_against_all_excuses(self):
        rng = random.Random(51)
        empty = 0
        for count, claims, names, most in liar_cases(rng, 150):
            for moment in range(count):
                for limit in (most, len(names)):
                    told = left_by(count, claims, names, limit, moment)
                    wanted = left_of(count, claims, names, limit, moment)
                    self.assertEqual(list(told), wanted)
                    joined = Cover()
                    for excuse in excuses_of(count, claims, names, limit):
                        joined = joined | Cover([narrowest(count, claims, moment, liars=excuse)])
                    self.assertEqual(list(joined), wanted)
                    span = verdict_span(count, claims, names, limit, moment)
                    self.assertEqual(span, (wanted[0][0], wanted[-1][1]) if wanted else None)
                    for end in span or ():
                        self.assertTrue(end is None or told.holds(end))
                    empty += not wanted
        self.assertGreater(empty, 100)

    def test_the_arguments_stay(self):
        claims, names = list(LINKED), ["c", "a", "b"]
        for call in (left_by, verdict_span):
            call(3, claims, names, 2, 1)
        self.assertEqual((claims, names), (LINKED, ["c", "a", "b"]))


class CertificateCase(unittest.TestCase):
    def check_parts(self, value, count, cases):
        """No list stands at two places; the rings of the cases are short, and no two of a case are equal."""
        parts = boxes(value)
        self.assertEqual(len({id(part) for part in parts}), len(parts))
        for rings in cases:
            self.assertLessEqual(len(rings), 64)
            self.assertEqual(len({tuple(ring) for ring in rings}), len(rings))
            for ring in rings:
                self.assertLessEqual(len(ring), count)

    def compare(self, judge, plain, values):
        return check_judge(self, judge, plain, values)


class LeftCertificateTest(CertificateCase):
    def check(self, count, claims, names, most, moment, step=0):
        value = unchanged(self, left_certificate, count, claims, names, most, moment)
        self.assertTrue(plain_left(count, claims, names, most, moment, value), value)
        self.assertIs(is_left_certificate(count, claims, names, most, moment, value), True)
        self.assertEqual([item[0] for item in value], full_sets(names, most))
        self.check_parts(value, count, [[item[2]] for item in value if item[1] == "ring"])
        spans = [item[2][0] for item in value if item[1] == "span"]
        self.assertEqual(list(Cover(spans)), list(left_by(count, claims, names, most, moment)))
        if step:
            self.compare(lambda told: is_left_certificate(count, claims, names, most, moment, told),
                         lambda told: plain_left(count, claims, names, most, moment, told),
                         list(spoiled(value))[::step])
        return value

    def test_by_hand(self):
        value = self.check(3, LINKED, ["c", "b", "a"], 1, 1)
        self.assertEqual([item[:2] for item in value], [(("a",), "ring"), (("b",), "ring"), (("c",), "span")])
        self.assertEqual(value[2][2][0], ((1, 1), (2, 1)))
        self.assertEqual([item[0] for item in self.check(3, LINKED, ABC, 2, 2)], [("a", "b"), ("a", "c"), ("b", "c")])
        self.assertEqual([item[0] for item in self.check(3, LINKED, ABC, 3, 2)], [("a", "b", "c")])
        self.assertEqual([item[0] for item in self.check(3, LINKED, ["b"], 3, 2)], [("b",)])
        self.assertEqual([item[:2] for item in self.check(3, LINKED, [], 2, 0)], [((), "ring")])
        self.assertEqual([item[:2] for item in self.check(1, [], ABC, 0, 0)], [((), "span")])
        self.assertEqual(len(self.check(2, SIX, ALL, 3, 1)), 20)

    def test_one_thing_wrong(self):
        for most, moment in [(0, 0), (1, 1), (2, 2), (3, 0)]:
            self.check(3, LINKED, ["c", "b", "a"], most, moment, 3)

    def test_hand_made(self):
        good = left_certificate(3, LINKED, ABC, 1, 1)
        longer = (("a",), "ring", good[0][2] * 2)
        for value, wanted in [
            (good, True), (good[::-1], False), (good[:2], False), (good + good[:1], False), (tuple(good), False),
            ([longer] + good[1:], True), ([list(good[0])] + good[1:], False), ([(["a"], "ring", good[0][2])] + good[1:],
                                                                              False),
            ([(("b",), "ring", good[0][2])] + good[1:], False), ([(("a",), "span", good[0][2])] + good[1:], False),
            ([(("a",), "ring", good[1][2])] + good[1:], False), ([(("a",), "span", good[2][2])] + good[1:], False),
            (good[:2] + [(("c",), "ring", good[0][2])], False), (good[:2] + [(("c",), "ring", good[2][2])], False),
            ([(("a",), "ring", [])] + good[1:], False), ([good[0] + (1,)] + good[1:], False), ([], False),
        ]:
            self.assertEqual(plain_left(3, LINKED, ABC, 1, 1, value), wanted, value)
            self.assertIs(is_left_certificate(3, LINKED, ABC, 1, 1, value), wanted, value)
        for moment in range(3):
            for most in range(4):
                self.compare(lambda told: is_left_certificate(3, LINKED, ABC, most, moment, told),
                             lambda told: plain_left(3, LINKED, ABC, most, moment, told),
                             [left_certificate(3, LINKED, ABC, other, at) for other in range(4) for at in range(3)])

    def test_many(self):
        rng = random.Random(52)
        for count, claims, names, most in liar_cases(rng, 60):
            for limit in {most, len(names)}:
                self.check(count, claims, names, min(limit, 6), rng.randrange(count), 41)

    def test_odd_values(self):
        for count, claims, names, most in [(1, [], [], 0), (1, [(0, 0, (-1, 1), "a")], ["a"], 0), (2, VOTES, ABC, 1)]:
            self.compare(lambda told: is_left_certificate(count, claims, names, most, 0, told),
                         lambda told: plain_left(count, claims, names, most, 0, told), ODD_VALUES)


class TimeCertificateTest(CertificateCase):
    def check(self, count, claims, names, most, moment, at, step=0):
        value = unchanged(self, time_certificate, count, claims, names, most, moment, at)
        self.assertTrue(plain_time(count, claims, names, most, moment, at, value), value)
        self.assertIs(is_time_certificate(count, claims, names, most, moment, at, value), True)
        self.check_parts(value, count, [value[1]] if value[0] == "case" else [])
        left = plain_holds(left_of(count, claims, names, most, moment), at)
        self.assertEqual(value[0], "world" if left else "case")
        if not left:
            self.assertTrue(good_case(plain_pinned(claims, moment, at), names, most, value[1], count))
        if step:
            self.compare(lambda told: is_time_certificate(count, claims, names, most, moment, at, told),
                         lambda told: plain_time(count, claims, names, most, moment, at, told),
                         list(spoiled(value))[::step])
        return value[0]

    def test_by_hand(self):
        for most, moment, at, wanted in [
            (1, 1, (1, 1), "world"), (1, 1, (2, 1), "world"), (1, 1, (99, 100), "case"), (1, 1, (201, 100), "case"),
            (0, 1, (3, 2), "case"), (2, 1, (3, 1), "world"), (2, 1, (4, 1), "case"), (3, 1, (-99, 1), "world"),
            (1, 2, (3, 1), "world"), (1, 2, (301, 100), "case"), (1, 0, (0, 1), "world"), (1, 0, (1, 1), "case"),
            (3, 0, (-1, 100), "case"), (0, 0, (0, 1), "case"),
        ]:
            self.assertEqual(self.check(3, LINKED, ["b", "c", "a"], most, moment, at, 2), wanted)
        self.assertEqual(self.check(1, [], [], 0, 0, (0, 1)), "world")
        self.assertEqual(self.check(1, [], [], 0, 0, (1, 3)), "case")
        self.assertEqual(self.check(3, HOPELESS, ABC, 3, 1, (1, 1)), "case")

    def test_hand_made(self):
        worlds = [[(0, 1), (3, 2), (2, 1)], [(0, 1), (5, 1), (5, 1)], [(0, 1), (3, 2), (3, 1)], [(0, 1), (3, 1), (3, 1)],
                  [(0, 1), (6, 1), (6, 1)], [(1, 1), (5, 2), (3, 1)], [(0, 1), (3, 1), (4, 1)], [(0, 1), (0, 1), (0, 1)]]
        sets = [(), ("a",), ("b",), ("c",), ("a", "b"), ("b", "a"), ("x",), ("c", "c"), ["c"], "c", None, ("c", "x")]
        values = [("world", chosen, world) for chosen in sets for world in worlds]
        values += [("worlds", ("c",), worlds[0]), ["world", ("c",), worlds[0]], ("world", ("c",), tuple(worlds[0])),
                   ("world", ("c",), worlds[0], 0), ("case", []), ("case", None), ("case", [[8]]), ("case", [[8, 9]])]
        counts = {True: 0, False: 0}
        for most in range(4):
            for at in [(3, 2), (3, 1), (6, 1), (0, 1)]:
                told = self.compare(lambda one: is_time_certificate(3, LINKED, ABC, most, 1, at, one),
                                    lambda one: plain_time(3, LINKED, ABC, most, 1, at, one), values)
                counts = {key: counts[key] + told[key] for key in counts}
        self.assertGreater(counts[True], 3)

    def test_the_indexes_are_those_of_the_pinned_claims(self):
        # No claim of the votes alone, but the pinned ones against each vote.
        claims, at = at_times(a=1), (5, 1)
        for value, wanted in [(("case", [[0, 3]]), True), (("case", [[3, 0]]), True), (("case", [[0, 1]]), False),
                              (("case", [[2, 3]]), False), (("case", [[0, 4]]), False), (("case", [[0, 3], [0, 3]]), True),
                              (("case", [[0, 3]] * 64), True), (("case", [[0, 3]] * 65), False)]:
            self.assertEqual(plain_time(2, claims, ["a"], 0, 1, at, value), wanted)
            self.assertIs(is_time_certificate(2, claims, ["a"], 0, 1, at, value), wanted)
            self.assertIs(is_time_certificate(2, claims, ["a"], 1, 1, at, value), False)
            self.assertIs(is_time_certificate(2, claims, [], 1, 1, at, value), wanted)

    def test_many(self):
        rng = random.Random(53)
        seen = {"world": 0, "case": 0}
        for count, claims, names, most in liar_cases(rng, 80):
            moment = rng.randrange(count)
            times = times_around(left_of(count, claims, names, most, moment))
            for at in rng.sample(times, min(4, len(times))):
                seen[self.check(count, claims, names, most, moment, at, 17)] += 1
        self.assertGreater(min(seen.values()), 60)

    def test_odd_values(self):
        for at in [(0, 1), (1, 2)]:
            self.compare(lambda told: is_time_certificate(1, [], ["a"], 1, 0, at, told),
                         lambda told: plain_time(1, [], ["a"], 1, 0, at, told), ODD_VALUES)


class RoleCertificateTest(CertificateCase):
    def check(self, count, claims, names, most, name, step=0):
        value = unchanged(self, role_certificate, count, claims, names, most, name)
        self.assertTrue(plain_role(count, claims, names, most, name, value), value)
        self.assertIs(is_role_certificate(count, claims, names, most, name, value), True)
        self.assertEqual(value[0], roles(count, claims, names, most)[name])
        self.check_parts(value, count, [side[1] for side in value[1:] if side[0] == "case"])
        if step:
            self.compare(lambda told: is_role_certificate(count, claims, names, most, name, told),
                         lambda told: plain_role(count, claims, names, most, name, told),
                         list(spoiled(value))[::step])
        return value

    def test_by_hand(self):
        for names, most, name, role in [
            (["c", "b", "a"], 1, "c", "liar"), (["c", "b", "a"], 1, "a", "honest"), (["c", "b", "a"], 2, "a", "open"),
            (["c", "b", "a"], 2, "c", "open"), (["c", "b"], 2, "c", "liar"), (["c", "y", "b"], 2, "y", "open"),
            (["c", "y", "b"], 1, "y", "honest"), (["c", "b", "a"], 3, "b", "open"), (["c"], 3, "c", "liar"),
        ]:
            self.assertEqual(self.check(3, LINKED, names, most, name, 2)[0], role)
        for most, name, role in [(2, "a", "honest"), (2, "d", "liar"), (3, "a", "open"), (3, "d", "open")]:
            self.assertEqual(self.check(2, SPLIT, FOUR, most, name, 5)[0], role)

    def test_most_zero(self):
        value = self.check(2, [], ["b", "a"], 0, "a", 1)
        self.assertEqual(value[:2], ("honest", ("case", [])))
        self.assertEqual(value[2][:2], ("world", ()))
        world = [(0, 1), (0, 1)]
        for told, wanted in [(("honest", ("case", []), ("world", (), world)), True),
                             (("honest", ("case", ()), ("world", (), world)), False),
                             (("honest", ("case", [[]]), ("world", (), world)), False),
                             (("honest", ("case", None), ("world", (), world)), False),
                             (("open", ("world", ("a",), world), ("world", (), world)), False),
                             (("open", ("case", []), ("world", (), world)), False),
                             (("liar", ("world", ("a",), world), ("case", [])), False),
                             ((None, ("case", []), ("case", [])), False), (("honest", ("case", []), ("case", [])), False)]:
            self.assertEqual(plain_role(2, [], ["b", "a"], 0, "a", told), wanted, told)
            self.assertIs(is_role_certificate(2, [], ["b", "a"], 0, "a", told), wanted, told)

    def test_hand_made(self):
        """All pairs of sides, under each role: most of them are certificates of nothing."""
        worlds = [[(0, 1), (3, 2), (2, 1)], [(0, 1), (5, 1), (5, 1)]]
        cases = [case_against(3, LINKED, others, most, liars=liars) for others, most, liars in [
            (["a", "b"], 1, ()), (["b", "c"], 0, ["a"]), (["a", "c"], 0, ["b"]), (["a", "b"], 0, ()), (ABC, 0, ())]]
        sides = [("world", chosen, world) for chosen in [(), ("a",), ("c",), ("a", "b"), ("b", "c")] for world in worlds]
        sides += [("case", rings) for rings in cases + [[]]]
        values = [(role, one, two) for role in ("open", "liar", "honest", None, "") for one in sides for two in sides]
        right = 0
        for name in ABC:
            for most in (0, 1, 2):
                counts = self.compare(lambda told: is_role_certificate(3, LINKED, ABC, most, name, told),
                                      lambda told: plain_role(3, LINKED, ABC, most, name, told), values)
                right += counts[True]
        self.assertGreater(right, 10)

    def test_a_name_that_is_no_suspect(self):
        for count, claims, most in [(3, LINKED, 2), (3, LINKED, 0), (3, HOPELESS, 3)]:
            for name in ("x", "", "d", "no name"):
                self.assertEqual(caught(self, UnknownName, role_certificate, count, claims, ABC, most, name).name, name)
                self.assertEqual(caught(self, UnknownName, role_certificate, count, claims, [], most, name).name, name)

    def test_no_excuse(self):
        for count, claims, names, most in [(3, LINKED, ABC, 0), (3, LINKED, ["a", "b"], 1), (3, HOPELESS, ABC, 3),
                                           (2, SIX, ALL, 3)]:
            for name in names:
                error = caught(self, TooManyLiars, role_certificate, count, claims, names, most, name)
                self.assertTrue(good_case(claims, names, most, error.rings, count))
                self.assertIs(is_case(claims, names, most, error.rings), True)

    def test_many(self):
        rng = random.Random(54)
        seen = {"liar": 0, "honest": 0, "open": 0}
        for count, claims, names, most in liar_cases(rng, 120):
            found = excuses_of(count, claims, names, most)
            for name in names:
                if found:
                    value = self.check(count, claims, names, most, name, 23)
                    self.assertEqual(value[0], roles_of(found, names)[name])
                    seen[value[0]] += 1
                else:
                    error = caught(self, TooManyLiars, role_certificate, count, claims, names, most, name)
                    self.assertTrue(good_case(claims, names, most, error.rings, count))
        self.assertGreater(min(seen.values()), 10)

    def test_odd_values(self):
        self.compare(lambda told: is_role_certificate(1, [], ["a"], 1, "a", told),
                     lambda told: plain_role(1, [], ["a"], 1, "a", told), ODD_VALUES)


class LeastCertificateTest(CertificateCase):
    def check(self, count, claims, names, step=0):
        value = unchanged(self, least_certificate, count, claims, names)
        self.assertTrue(plain_least(count, claims, names, value), value)
        self.assertIs(is_least_certificate(count, claims, names, value), True)
        self.assertEqual(value[0], least_of(count, claims, names))
        self.check_parts(value, count, [value[3]])
        if step:
            self.compare(lambda told: is_least_certificate(count, claims, names, told),
                         lambda told: plain_least(count, claims, names, told), list(spoiled(value))[::step])
        return value

    def test_by_hand(self):
        for count, claims, names, number, excuse in [
            (3, LINKED, ["c", "b", "a"], 1, ("c",)), (3, LINKED, ["a", "b"], 2, ("a", "b")), (3, LINKED, ["a"], None, ()),
            (3, LINKED, [], None, ()), (3, HOPELESS, ABC, None, ()), (1, [], [], 0, ()), (2, [], ALL, 0, ()),
            (2, SPLIT, FOUR, 2, ("c", "d")),
        ]:
            value = self.check(count, claims, names, 3)
            self.assertEqual(value[:2], (number, excuse))
            if number is None:
                self.assertEqual(value[2], [])
            if number == 0:
                self.assertEqual(value[3], [])
        self.assertEqual(self.check(2, SIX, ALL, 41)[0], 5)
        self.assertEqual(self.check(2, SIX + at_times(x=0), ALL, 41)[0], 6)
        self.assertIsNone(self.check(2, SIX + at_times(x=0, y=1), ALL, 41)[0])

    def test_hand_made(self):
        good = least_certificate(3, LINKED, ABC)
        world = good[2]
        wide = [(0, 1), (5, 1), (5, 1)]
        values = [
            good, list(good), good[:3], good + (0,), (1, ["c"], world, good[3]), (True, ("c",), world, good[3]),
            (2, ("b", "c"), world, case_against(3, LINKED, ABC, 0)), (2, ("a", "b"), wide, good[3]),
            (1, ("a",), wide, good[3]), (1, ("c",), wide, good[3]), (0, (), world, []), (1, ("c",), world, []),
            (1, ("c",), world, good[3] * 64), (1, ("c",), world, good[3] * 65), (None, (), [], good[3]),
            (None, ("c",), [], good[3]), (None, (), world, good[3]), (2, ("c",), world, good[3]),
            (1, ("c", "c"), world, good[3]), (2, ("c", "b"), world, good[3]), (-1, (), world, good[3]),
            (4, ("a", "b", "c", "d"), world, good[3]), (4, ("a", "b", "c"), world, good[3]), (10 ** 30, (), world, good[3]),
            (1, ("x",), world, good[3]), (2, ("c", "x"), world, good[3]), ("1", ("c",), world, good[3]),
        ]
        for claims, names in [(LINKED, ABC), (LINKED, ["c"]), (LINKED, ["a", "b"]), ([], ABC), (HOPELESS, ABC)]:
            self.compare(lambda told: is_least_certificate(3, claims, names, told),
                         lambda told: plain_least(3, claims, names, told), values)
        self.assertTrue(plain_least(3, LINKED, ABC, values[12]))
        self.assertFalse(plain_least(3, LINKED, ABC, values[13]))
        empty = [(0, 1), (0, 1), (0, 1)]
        self.assertIs(is_least_certificate(3, [], ABC, (0, (), empty, [])), True)
        self.assertIs(is_least_certificate(3, [], ABC, (False, (), empty, [])), False)
        self.assertIs(is_least_certificate(3, [], ABC, (0, (), empty, ())), False)
        self.assertIs(is_least_certificate(3, [], ABC, (0, (), empty, [[]])), False)

    def test_none_needs_a_case_against_all(self):
        claims = at_times(a=1, b=2, x=3)
        ring = [[2, 1]]
        self.assertIs(is_least_certificate(2, claims, ["c"], (None, (), [], [[0, 3]])), True)
        for value in [(None, (), [], [[0, 3]]), (None, (), [], ring), (None, (), [], [])]:
            self.compare(lambda told: is_least_certificate(2, claims, ["a"], told),
                         lambda told: plain_least(2, claims, ["a"], told), [value])
            self.assertIs(is_least_certificate(2, claims, ["a"], value), False)
        self.assertIs(is_least_certificate(2, claims, ["a"], (None, (), [], [[2, 5]])), True)

    def test_many(self):
        rng = random.Random(55)
        numbers = []
        for count, claims, names, most in liar_cases(rng, 120):
            numbers.append(self.check(count, claims, names, 13)[0])
        for number in (None, 0, 1, 2):
            self.assertGreater(numbers.count(number), 5)

    def test_odd_values(self):
        for claims in ([], [(0, 0, (-1, 1), "")]):
            self.compare(lambda told: is_least_certificate(1, claims, ["a"], told),
                         lambda told: plain_least(1, claims, ["a"], told), ODD_VALUES)


class KeptTest(unittest.TestCase):
    def test_what_is_returned_may_be_changed(self):
        for call, more in [(left_certificate, (1, 1)), (time_certificate, (1, 1, (3, 2))), (time_certificate, (1, 1, (9, 1))),
                           (role_certificate, (1, "a")), (role_certificate, (1, "c"))]:
            wanted = repr(call(3, LINKED, ABC, *more))
            for part in boxes(call(3, LINKED, ABC, *more)):
                part.clear()
            self.assertEqual(repr(call(3, LINKED, ABC, *more)), wanted)

    def test_long_integers(self):
        long = 7 ** 300
        claims = [(0, 1, rat(long + 2, 3 ** 200), "a"), (1, 0, rat(-long, 3 ** 200), "b"), (0, 1, (1, 1), "c")]
        names = ["a", "b", "c"]
        for most in range(4):
            self.assertEqual(list(left_by(2, claims, names, most, 1)), left_of(2, claims, names, most, 1))
            self.assertTrue(plain_left(2, claims, names, most, 1, left_certificate(2, claims, names, most, 1)))


if __name__ == "__main__":
    unittest.main()
