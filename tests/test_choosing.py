"""Points 37 to 40, and the interface's choosing.py."""

import random
import unittest

from clockverdict.choosing import (alone_votes, choice_error, choose, claims_of_votes, compare_at, depth_at, met_by,
                                   most_met, outliers, plain_cover, thinned, weighed)
from clockverdict.covers import Cover
from clockverdict.errors import BadBound, UnknownMoment
from clockverdict.verdicts import left_by, verdict_span
from tests.claiming import plain_bounds, plain_span
from tests.covering import high_end, low_end, plain_holds, plain_normal, some_span, times_around
from tests.judging import left_of, liar_cases
from tests.support import caught, fraction, rat, unchanged

WHOLE = (None, None)
ABC = ["a", "b", "c"]
VOTES = [("a", ((0, 1), (2, 1))), ("b", ((1, 1), (3, 1))), ("c", ((5, 1), (6, 1)))]


def votes_of(*spans):
    """Votes with the names v0, v1 and so on."""
    return [(f"v{at}", span) for at, span in enumerate(spans)]


def whole(low, high):
    return (None if low is None else (low, 1), None if high is None else (high, 1))


def some_votes(rng, many=6):
    names = rng.sample(["a", "b", "c", "d", "e", "f", "g1", "g2"], rng.randint(0, many))
    return [(name, some_span(rng)) for name in names]


# The points 37 to 40, written apart from the program.

def plain_depth(votes, t):
    return len([name for name, span in votes if plain_holds([span], t)])


def plain_met(votes, number):
    """The met cover as spans: between two neighbouring ends all times have the same depth."""
    if number <= 0:
        return [WHOLE]
    ends = sorted({fraction(end) for _, span in votes for end in span if end is not None})
    marks = [None] + [rat(end) for end in ends] + [None]
    found = [(rat(end), rat(end)) for end in ends if plain_depth(votes, rat(end)) >= number]
    for low, high in zip(marks, marks[1:]):
        if low is None and high is None:
            middle = (0, 1)
        elif low is None:
            middle = rat(fraction(high) - 1)
        elif high is None:
            middle = rat(fraction(low) + 1)
        else:
            middle = rat((fraction(low) + fraction(high)) / 2)
        if plain_depth(votes, middle) >= number:
            found.append((low, high))
    return plain_normal(found)


def plain_outliers(votes, most):
    cover = plain_met(votes, len(votes) - most)
    return sorted([name for name, span in votes
                   if not any([max(low_end(span), low_end(part)) <= min(high_end(span), high_end(part))
                               for part in cover])])


def middle(span):
    return (fraction(span[0]) + fraction(span[1])) / 2


def plain_thinned(votes, keep):
    left = [vote for vote in votes if None not in vote[1]]
    while len(left) > keep:
        going = max(left, key=lambda vote: (sum([abs(middle(vote[1]) - middle(span)) for _, span in left]), vote[0]))
        left.remove(going)
    return left


def plain_weighed(votes):
    spans = [span for _, span in votes if None not in span]
    if not spans:
        return None
    points = [middle(span) for span in spans if span[0] == span[1]]
    if points:
        return rat(sum(points) / len(points))
    weights = [1 / (fraction(high) - fraction(low)) for low, high in spans]
    return rat(sum([middle(span) * weight for span, weight in zip(spans, weights)]) / sum(weights))


def plain_choice(votes, most, keep):
    cover = plain_met(votes, len(votes) - most)
    out = plain_outliers(votes, most)
    result = plain_weighed(plain_thinned([vote for vote in votes if vote[0] not in out], keep))
    if result is None or not cover:
        return None
    if plain_holds(cover, result):
        return result
    ends = [fraction(end) for span in cover for end in span if end is not None]
    return rat(min(ends, key=lambda end: (abs(end - fraction(result)), end)))


def plain_error(votes, most, keep):
    choice = plain_choice(votes, most, keep)
    ends = [end for span in plain_met(votes, len(votes) - most) for end in span]
    if choice is None or None in ends:
        return None
    return rat(max([abs(fraction(end) - fraction(choice)) for end in ends]))


def plain_alone(count, claims, names, moment):
    found = []
    for name in sorted(names):
        bounds = plain_bounds(count, claims, [other for other in names if other != name])
        if bounds is not None:
            found.append((name, plain_span(bounds, moment)))
    return found


class MetTest(unittest.TestCase):
    def check(self, votes, number):
        told = met_by(votes, number)
        self.assertIs(type(told), Cover)
        wanted = plain_met(votes, number)
        self.assertEqual(list(told), wanted, (votes, number))
        return wanted

    def test_depth(self):
        for t, wanted in [((0, 1), 1), ((-1, 9), 0), ((1, 1), 2), ((2, 1), 2), ((201, 100), 1), ((4, 1), 0), ((6, 1), 1)]:
            self.assertEqual(unchanged(self, depth_at, VOTES, t), wanted)
        self.assertEqual(depth_at([], (0, 1)), 0)
        far = votes_of(WHOLE, whole(None, 3), whole(3, None))
        for t, wanted in [((-10 ** 11, 1), 2), ((3, 1), 3), ((10 ** 11, 7), 2)]:
            self.assertEqual(depth_at(far, t), wanted)

    def test_by_hand(self):
        for number, wanted in [(-5, [WHOLE]), (0, [WHOLE]), (1, [((0, 1), (3, 1)), ((5, 1), (6, 1))]),
                               (2, [((1, 1), (2, 1))]), (3, []), (4, []), (99, [])]:
            self.assertEqual(self.check(VOTES, number), wanted)
        self.assertEqual(self.check([], 0), [WHOLE])
        self.assertEqual(self.check([], 1), [])
        self.assertEqual(self.check([], -1), [WHOLE])
        touch = votes_of(whole(0, 2), whole(2, 4), whole(4, 6), whole(7, 8))
        self.assertEqual(self.check(touch, 1), [whole(0, 6), whole(7, 8)])
        self.assertEqual(self.check(touch, 2), [whole(2, 2), whole(4, 4)])
        self.assertEqual(self.check(touch, 3), [])
        points = votes_of(whole(3, 3), whole(3, 3), whole(0, 3), whole(3, 9))
        for number, wanted in [(1, [whole(0, 9)]), (2, [whole(3, 3)]), (4, [whole(3, 3)]), (5, [])]:
            self.assertEqual(self.check(points, number), wanted)
        same = votes_of(whole(0, 2), whole(0, 2), whole(0, 2))
        for number in (1, 2, 3):
            self.assertEqual(self.check(same, number), [whole(0, 2)])

    def test_ends_none(self):
        votes = votes_of(whole(None, 3), whole(1, None), WHOLE, whole(5, 6))
        for number, wanted in [(1, [WHOLE]), (2, [WHOLE]), (3, [whole(1, 3), whole(5, 6)]), (4, [])]:
            self.assertEqual(self.check(votes, number), wanted)
        votes = votes_of(whole(None, 3), whole(4, None))
        self.assertEqual(self.check(votes, 1), [whole(None, 3), whole(4, None)])
        self.assertEqual(self.check(votes, 2), [])
        self.assertEqual(self.check(votes_of(whole(None, 3), whole(3, None)), 2), [whole(3, 3)])
        self.assertEqual(self.check(votes_of(WHOLE, WHOLE), 2), [WHOLE])

    def test_many(self):
        rng = random.Random(61)
        for _ in range(150):
            votes = some_votes(rng, 8)
            for number in range(-1, len(votes) + 2):
                self.check(votes, number)
                told = met_by(votes, number)
                for t in times_around([span for _, span in votes])[::3]:
                    self.assertEqual(told.holds(t), depth_at(votes, t) >= number)
                    self.assertEqual(depth_at(votes, t), plain_depth(votes, t))

    def test_most_met(self):
        rng = random.Random(62)
        for votes in [[], VOTES] + [some_votes(rng) for _ in range(150)]:
            depth, cover = unchanged(self, lambda told: (most_met(told)[0], list(most_met(told)[1])), votes)
            times = times_around([span for _, span in votes])
            self.assertEqual(depth, max([plain_depth(votes, t) for t in times]))
            self.assertEqual(cover, plain_met(votes, depth))
            self.assertIs(type(most_met(votes)), tuple)
            self.assertIs(type(most_met(votes)[1]), Cover)
        self.assertEqual(most_met([])[0], 0)
        self.assertEqual(list(most_met([])[1]), [WHOLE])
        self.assertEqual(most_met(VOTES)[0], 2)
        self.assertEqual(list(most_met(VOTES)[1]), [((1, 1), (2, 1))])
        self.assertEqual(most_met(votes_of(WHOLE, WHOLE))[0], 2)


class OutlierTest(unittest.TestCase):
    def test_by_hand(self):
        for most, wanted in [(0, ABC), (1, ["c"]), (2, []), (3, []), (6, [])]:
            self.assertEqual(plain_outliers(VOTES, most), wanted)
            self.assertEqual(unchanged(self, outliers, VOTES, most), wanted)
            self.assertEqual(outliers(VOTES[::-1], most), wanted)
        self.assertEqual(outliers([], 0), [])
        touch = votes_of(whole(0, 2), whole(1, 2), whole(2, 3), whole(5, 6))
        self.assertEqual(outliers(touch, 1), ["v3"])
        self.assertEqual(outliers(touch, 2), ["v3"])
        self.assertEqual(outliers(touch, 0), ["v0", "v1", "v2", "v3"])

    def test_many(self):
        rng = random.Random(63)
        for _ in range(200):
            votes = some_votes(rng)
            for most in range(4):
                self.assertEqual(outliers(votes, most), plain_outliers(votes, most))


class ThinnedTest(unittest.TestCase):
    def test_by_hand(self):
        votes = votes_of(whole(0, 2), whole(8, 12), whole(2, 2), whole(2, 4), whole(None, 3), whole(100, None))
        self.assertEqual(unchanged(self, thinned, votes, keep=9), votes[:4])
        self.assertEqual(thinned(votes, keep=4), votes[:4])
        self.assertEqual(thinned(votes, keep=3), [votes[0], votes[2], votes[3]])
        self.assertEqual(thinned(votes), thinned(votes, keep=3))
        # The middles left are 1, 2 and 3; v0 and v3 have equal spreads.
        self.assertEqual(thinned(votes, keep=2), [votes[0], votes[2]])
        self.assertEqual(thinned(votes, keep=1), [votes[0]])
        self.assertEqual(thinned([], keep=1), [])
        self.assertEqual(thinned(votes_of(whole(None, 3)), keep=1), [])

    def test_of_equal_spreads_the_greatest_name_goes(self):
        spans = {"b": whole(0, 2), "a9": whole(0, 2), "a10": whole(0, 2), "c": whole(0, 2)}
        for order in (["b", "a9", "a10", "c"], ["c", "a10", "a9", "b"], ["a9", "c", "b", "a10"]):
            votes = [(name, spans[name]) for name in order]
            for keep, left in [(3, ["a10", "a9", "b"]), (2, ["a10", "a9"]), (1, ["a10"])]:
                self.assertEqual(thinned(votes, keep=keep), [vote for vote in votes if vote[0] in left])
        ends = [("z", whole(0, 0)), ("a", whole(4, 4))]
        self.assertEqual(thinned(ends, keep=1), [ends[1]])
        self.assertEqual(thinned(ends[::-1], keep=1), [ends[1]])

    def test_the_spread_is_found_anew(self):
        # 0, 0, 9, 10, 11: first a 0 goes; of 0, 9, 10, 11 the other 0 goes as well.
        votes = [(name, whole(t, t)) for name, t in [("a", 0), ("b", 0), ("c", 9), ("d", 10), ("e", 11)]]
        self.assertEqual([name for name, _ in thinned(votes, keep=4)], ["a", "c", "d", "e"])
        self.assertEqual([name for name, _ in thinned(votes, keep=3)], ["c", "d", "e"])
        self.assertEqual([name for name, _ in thinned(votes, keep=2)], ["c", "d"])

    def test_many(self):
        rng = random.Random(64)
        for _ in range(300):
            votes = some_votes(rng, 8)
            for keep in range(1, 6):
                self.assertEqual(thinned(votes, keep=keep), plain_thinned(votes, keep))

    def test_keep_below_one(self):
        for keep in (0, -1, -10 ** 11):
            for votes in ([], VOTES, votes_of(WHOLE)):
                self.assertEqual(caught(self, BadBound, thinned, votes, keep=keep).value, keep)
                for most in (0, 1, 3):
                    self.assertEqual(caught(self, BadBound, choose, votes, most, keep=keep).value, keep)
                    self.assertEqual(caught(self, BadBound, choice_error, votes, most, keep=keep).value, keep)


class WeighedTest(unittest.TestCase):
    def test_by_hand(self):
        for spans, wanted in [
            ([], None), ([WHOLE], None), ([whole(None, 3), whole(2, None)], None), ([whole(0, 2)], (1, 1)),
            ([whole(0, 2), whole(4, 8)], (8, 3)), ([whole(0, 2), whole(4, 8), whole(3, None)], (8, 3)),
            ([whole(0, 2), whole(7, 7)], (7, 1)), ([whole(7, 7), whole(0, 2), whole(9, 9), whole(4, 4)], (20, 3)),
            ([whole(0, 0), whole(0, 1), whole(None, 0)], (0, 1)), ([whole(0, 1), whole(0, 1), whole(9, 11)], (12, 5)),
        ]:
            votes = votes_of(*spans)
            self.assertEqual(plain_weighed(votes), wanted)
            self.assertEqual(unchanged(self, weighed, votes), wanted)
        many = votes_of(*[whole(t, t) for t in range(40)])
        self.assertEqual(weighed(many), (39, 2))

    def test_many(self):
        rng = random.Random(65)
        for _ in range(300):
            votes = some_votes(rng, 8)
            self.assertEqual(weighed(votes), plain_weighed(votes))


class ChoiceTest(unittest.TestCase):
    def check(self, votes, most, keep):
        wanted = plain_choice(votes, most, keep)
        self.assertEqual(unchanged(self, choose, votes, most, keep=keep), wanted, (votes, most, keep))
        error = plain_error(votes, most, keep)
        self.assertEqual(unchanged(self, choice_error, votes, most, keep=keep), error, (votes, most, keep))
        return (wanted, error)

    def test_by_hand(self):
        self.assertEqual(choose(VOTES, 1), (3, 2))
        self.assertEqual(choice_error(VOTES, 1), (1, 2))
        self.assertEqual(self.check(VOTES, 0, 3), (None, None))
        self.assertEqual(self.check([], 0, 3), (None, None))
        self.assertEqual(self.check([], 2, 1), (None, None))
        # The weighed 7/2 is nearer to 3 than to 5.
        self.assertEqual(self.check(VOTES, 2, 3)[0], (3, 1))
        # The whole line: no outliers, nothing to be near to.
        self.assertEqual(self.check(VOTES, 3, 3), ((7, 2), None))

    def test_of_two_equally_near_times_the_lesser(self):
        votes = votes_of(whole(0, 2), whole(6, 8))
        self.assertEqual(self.check(votes, 1, 3), ((2, 1), (6, 1)))
        self.assertEqual(self.check(votes[::-1], 1, 3), ((2, 1), (6, 1)))
        # With keep 1 the greatest name goes and the rest lies in the cover.
        self.assertEqual(self.check(votes, 1, 1), ((1, 1), (7, 1)))

    def test_the_cover_stays_when_votes_are_left_out(self):
        votes = votes_of(whole(0, 10), whole(4, 6), whole(20, 22), whole(5, 9))
        self.assertEqual(list(met_by(votes, 3)), [whole(5, 6)])
        self.assertEqual(outliers(votes, 1), ["v2"])
        choice = self.check(votes, 1, 3)[0]
        self.assertEqual(choice, (95, 17))
        self.assertEqual(self.check(votes, 1, 1)[0], (5, 1))

    def test_no_vote_without_an_end_none_is_left(self):
        votes = votes_of(whole(None, 3), whole(1, None))
        self.assertEqual(self.check(votes, 0, 3), (None, None))
        self.assertEqual(self.check(votes + [("v9", whole(50, 60))], 1, 3), ((55, 1), (54, 1)))
        below = votes_of(whole(None, 3), whole(None, 2), whole(50, 60))
        self.assertEqual(self.check(below, 1, 3), (None, None))
        self.assertEqual(self.check(votes + [("v9", whole(2, 2))], 0, 3), ((2, 1), (0, 1)))

    def test_the_cover_has_an_end_none(self):
        votes = votes_of(whole(None, 3), whole(1, 2))
        self.assertEqual(self.check(votes, 1, 3), ((3, 2), None))
        self.assertEqual(self.check(votes_of(whole(5, None), whole(1, 2)), 1, 3), ((3, 2), None))
        self.assertEqual(self.check(votes_of(whole(5, None), whole(1, 2)), 2, 3), ((3, 2), None))

    def test_left_out_keep(self):
        votes = votes_of(whole(0, 9), whole(1, 9), whole(2, 8), whole(3, 9), whole(4, 9))
        for most in range(4):
            self.assertEqual(choose(votes, most), choose(votes, most, keep=3))
            self.assertEqual(choice_error(votes, most), choice_error(votes, most, keep=3))

    def test_many(self):
        rng = random.Random(66)
        nones = [0, 0]
        for _ in range(400):
            votes = some_votes(rng, 7)
            for most in rng.sample(range(4), 2):
                told = self.check(votes, most, rng.randint(1, 5))
                nones = [nones[0] + (told[0] is None), nones[1] + (told[1] is not None)]
                if told[0] is not None:
                    self.assertIs(met_by(votes, len(votes) - most).holds(told[0]), True)
        self.assertGreater(min(nones), 100)

    def test_forty_votes(self):
        rng = random.Random(67)
        votes = [(f"v{at}", some_span(rng, -10 ** 9, 10 ** 9, 10 ** 9)) for at in range(40)]
        for keep in (1, 3, 40):
            self.check(votes, 25, keep)


class ClaimsOfVotesTest(unittest.TestCase):
    def test_by_hand(self):
        self.assertEqual(unchanged(self, claims_of_votes, VOTES, 1), [
            (0, 1, (2, 1), "a"), (1, 0, (0, 1), "a"), (0, 1, (3, 1), "b"), (1, 0, (-1, 1), "b"),
            (0, 1, (6, 1), "c"), (1, 0, (-5, 1), "c")])
        self.assertEqual(claims_of_votes([("b", whole(None, 3)), ("a", whole(-4, None)), ("c", WHOLE)], 7), [
            (0, 7, (3, 1), "b"), (7, 0, (4, 1), "a")])
        self.assertEqual(claims_of_votes(VOTES[:1], 0), [(0, 0, (2, 1), "a"), (0, 0, (0, 1), "a")])
        self.assertEqual(claims_of_votes([], 3), [])

    def test_the_three_covers_are_the_same(self):
        rng = random.Random(68)
        for _ in range(150):
            votes = some_votes(rng, 5)
            names = [name for name, _ in votes]
            moment = rng.randint(1, 2)
            claims = claims_of_votes(votes, moment)
            for most in range(4):
                wanted = plain_met(votes, len(votes) - most)
                self.assertEqual(list(left_by(3, claims, names, most, moment)), wanted)
                self.assertEqual(list(plain_cover(3, claims, names, most, moment)), wanted)
                self.assertEqual(list(met_by(votes, len(votes) - most)), wanted)


# a and b alone leave moment 1 at 0 to 2 and 1 to 3, but both say that moments 1 and 2 lie apart by what the other denies.
APART = [(0, 1, (2, 1), "a"), (1, 0, (0, 1), "a"), (0, 1, (3, 1), "b"), (1, 0, (-1, 1), "b"), (1, 2, (1, 1), "a"),
         (2, 1, (-5, 1), "b")]


class PlainCoverTest(unittest.TestCase):
    def test_alone_votes(self):
        self.assertEqual(unchanged(self, alone_votes, 3, APART, ["b", "a"], 1),
                         [("a", ((0, 1), (2, 1))), ("b", ((1, 1), (3, 1)))])
        self.assertEqual(alone_votes(3, APART, ["b", "a"], 2), [("a", (None, (3, 1))), ("b", ((6, 1), None))])
        self.assertEqual(alone_votes(3, APART, ["a"], 1), [])
        self.assertEqual(alone_votes(3, APART, [], 1), [])
        self.assertEqual(alone_votes(3, APART, ["x", "b", "a"], 1),
                         [("a", ((0, 1), (2, 1))), ("b", ((1, 1), (3, 1))), ("x", WHOLE)])
        bad = APART + [(0, 0, (-1, 1), "b")]
        self.assertEqual(alone_votes(3, bad, ["b", "a"], 1), [("a", ((0, 1), (2, 1)))])
        self.assertEqual(alone_votes(3, bad, ["b", "a"], 0), [("a", ((0, 1), (0, 1)))])

    def test_a_time_in_the_plain_cover_alone(self):
        self.assertEqual(list(left_by(3, APART, ["b", "a"], 0, 1)), [])
        self.assertEqual(list(plain_cover(3, APART, ["b", "a"], 0, 1)), [((1, 1), (2, 1))])
        self.assertEqual(compare_at(3, APART, ["b", "a"], 0, 1, (1, 1)), "plain")
        self.assertEqual(compare_at(3, APART, ["b", "a"], 0, 1, (99, 100)), "none")
        self.assertEqual(compare_at(3, APART, ["b", "a"], 1, 1, (3, 1)), "both")
        self.assertEqual(compare_at(3, APART, ["b", "a"], 1, 1, (-1, 3)), "none")

    def test_the_number_counts_suspects_without_an_alone_span(self):
        bad = APART + [(0, 0, (-1, 1), "b")]
        for most, wanted in [(0, []), (1, [((0, 1), (2, 1))]), (2, [WHOLE]), (3, [WHOLE])]:
            self.assertEqual(list(plain_cover(3, bad, ["b", "a"], most, 1)), wanted)
        hopeless = APART + [(0, 0, (-1, 1), "")]
        for most, wanted in [(0, []), (1, []), (2, [WHOLE]), (3, [WHOLE])]:
            self.assertEqual(list(plain_cover(3, hopeless, ["b", "a"], most, 1)), wanted)
            self.assertEqual(compare_at(3, hopeless, ["b", "a"], most, 1, (5, 1)), "plain" if wanted else "none")
        self.assertEqual(list(plain_cover(3, hopeless, [], 0, 1)), [WHOLE])
        self.assertIs(type(plain_cover(3, hopeless, [], 0, 1)), Cover)

    def test_many(self):
        rng = random.Random(69)
        seen = {"both": 0, "plain": 0, "none": 0}
        for count, claims, names, most in liar_cases(rng, 150):
            moment = rng.randrange(count)
            votes = plain_alone(count, claims, names, moment)
            self.assertEqual(unchanged(self, alone_votes, count, claims, names, moment), votes)
            cover = plain_met(votes, len(names) - most)
            self.assertEqual(list(plain_cover(count, claims, names, most, moment)), cover)
            left = left_of(count, claims, names, most, moment)
            self.assertIs(Cover(left).inside(Cover(cover)), True)
            for at in times_around(left + cover)[::2]:
                wanted = "both" if plain_holds(left, at) else "plain" if plain_holds(cover, at) else "none"
                self.assertEqual(compare_at(count, claims, names, most, moment, at), wanted)
                seen[wanted] += 1
        self.assertGreater(min(seen.values()), 50)

    def test_unknown_moments(self):
        for count, names in [(3, ["a", "b"]), (3, []), (1, ["a"])]:
            claims = APART if count == 3 else []
            for moment in (-1, count, 10 ** 11):
                for call, more in [(alone_votes, (moment,)), (plain_cover, (0, moment)), (plain_cover, (3, moment)),
                                   (compare_at, (0, moment, (1, 1))), (compare_at, (3, moment, (1, 1)))]:
                    error = caught(self, UnknownMoment, call, count, claims, names, *more)
                    self.assertEqual(error.moment, moment)


class KeptTest(unittest.TestCase):
    def test_results_are_the_callers(self):
        votes = votes_of(whole(0, 2), whole(1, 3), whole(5, 6), whole(0, None))
        for call in (lambda: outliers(votes, 1), lambda: thinned(votes, keep=2), lambda: claims_of_votes(votes, 1),
                     lambda: alone_votes(3, APART, ABC, 1)):
            wanted = list(call())
            call().clear()
            self.assertEqual(call(), wanted)
        self.assertIsNot(thinned(votes, keep=9), votes)
        self.assertEqual(len(votes), 4)

    def test_the_verdict_span_of_votes(self):
        self.assertEqual(verdict_span(2, claims_of_votes(VOTES, 1), ABC, 1, 1), ((1, 1), (2, 1)))


if __name__ == "__main__":
    unittest.main()
