"""Points 13 to 16 and the interface's courses.py."""

import copy
import random
import unittest

from clockverdict.courses import (chained, elapsed, is_course, jumps, runs_within, shown_at, slewed, stepped, tidy,
                                  times_of, worst_error)
from clockverdict.errors import BadRate, BeforeStart, EmptySpan, TurnsBack
from tests.support import (ODD_VALUES, caught, check_judge, fraction, plain_rational, rat, some_rational, spoiled,
                           unchanged)

EXAMPLE = [((0, 1), (0, 1), (1, 1)), ((10, 1), (12, 1), (1, 2))]
# Up by two at 10, the same again at 20, down by one at 30, another rate without a jump at 40.
MIXED = [((0, 1), (0, 1), (1, 1)), ((10, 1), (12, 1), (1, 1)), ((20, 1), (22, 1), (1, 1)), ((30, 1), (31, 1), (1, 1)),
         ((40, 1), (41, 1), (2, 1))]


def plain_course(value):
    if type(value) is not list or not value:
        return False
    for piece in value:
        if type(piece) is not tuple or len(piece) != 3 or not all([plain_rational(part) for part in piece]):
            return False
        if fraction(piece[2]) <= 0:
            return False
    starts = [fraction(piece[0]) for piece in value]
    return all([a < b for a, b in zip(starts, starts[1:])])


def value_at(course, t):
    """What is shown at the Fraction t, None before the first start."""
    found = None
    for start, shown, rate in course:
        if fraction(start) <= t:
            found = fraction(shown) + fraction(rate) * (t - fraction(start))
    return found


def plain_tidy(course):
    kept = course[:1]
    for before, piece in zip(course, course[1:]):
        t = fraction(piece[0])
        would = fraction(before[1]) + fraction(before[2]) * (t - fraction(before[0]))
        if before[2] != piece[2] or would != fraction(piece[1]):
            kept.append(piece)
    return kept


def some_course(rng, forward=False):
    """A course of one to six pieces; some of them continue the one before, some jump."""
    t = some_rational(rng)
    course = [(t, some_rational(rng), some_rational(rng, 1, 4, 3))]
    for _ in range(rng.randint(0, 5)):
        t = rat(fraction(t) + fraction(some_rational(rng, 1, 6, 3)))
        before = course[-1]
        would = fraction(before[1]) + fraction(before[2]) * (fraction(t) - fraction(before[0]))
        low = 0 if forward else -3
        jump = rng.choice([0, 0, fraction(some_rational(rng, low, 3, 2))])
        rate = rng.choice([before[2], some_rational(rng, 1, 4, 3)])
        course.append((t, rat(would + jump), rate))
    return course


def probes(*courses):
    """Fractions at, between, ahead of and behind all starts."""
    starts = sorted({fraction(piece[0]) for course in courses for piece in course})
    found = [starts[0] - 1, starts[-1] + 1, starts[-1] + 7]
    for t in starts:
        found.extend([t, t - rat_small(), t + rat_small()])
    for a, b in zip(starts, starts[1:]):
        found.append((a + b) / 2)
    return sorted(found)


def rat_small():
    return fraction((1, 1000003))


def courses():
    rng = random.Random(5)
    return [EXAMPLE, MIXED, MIXED[:1]] + [some_course(rng) for _ in range(60)]


class IsCourseTest(unittest.TestCase):
    def test_odd_values(self):
        check_judge(self, is_course, plain_course, ODD_VALUES)

    def test_right_values(self):
        for course in courses():
            self.assertTrue(plain_course(course))
            self.assertIs(is_course(course), True)

    def test_one_thing_wrong(self):
        for course in courses()[:12]:
            counts = check_judge(self, is_course, plain_course, list(spoiled(course)))
            self.assertGreater(counts[False], 60)

    def test_no_bound_on_the_number_of_pieces(self):
        many = [((k, 1), (0, 1), (1, 1)) for k in range(1000)]
        self.assertIs(is_course(many), True)
        self.assertIs(is_course(many + [((999, 1), (0, 1), (1, 1))]), False)

    def test_wrong_values(self):
        piece = ((0, 1), (0, 1), (1, 1))
        for value in [[], (), (piece,), piece, [list(piece)], [piece, piece], [((1, 1), (0, 1), (1, 1)), piece],
                      [((0, 1), (0, 1), (0, 1))], [((0, 1), (0, 1), (-1, 1))], [piece[:2]], [piece + ((0, 1),)],
                      [((0, 1), (0, 1), (2, 2))], [((True, 1), (0, 1), (1, 1))], [((0, 1), (0, 1), (True, 1))],
                      [((0, 1), (0, 1), None)], [(None, (0, 1), (1, 1))], {0: piece}, None, "course", [None], [[]],
                      [((1, 2), (0, 1), (1, 1)), ((1, 3), (0, 1), (1, 1))]]:
            self.assertIs(is_course(value), False)


class ShownTest(unittest.TestCase):
    def test_shown_at_every_probe(self):
        for course in courses():
            for t in probes(course):
                wanted = value_at(course, t)
                if wanted is None:
                    error = caught(self, BeforeStart, shown_at, course, rat(t))
                    self.assertEqual(error.value, rat(t))
                else:
                    self.assertEqual(unchanged(self, shown_at, course, rat(t)), rat(wanted))

    def test_at_and_ahead_of_a_start(self):
        self.assertEqual(shown_at(EXAMPLE, (0, 1)), (0, 1))
        self.assertEqual(shown_at(EXAMPLE, (10, 1)), (12, 1))
        self.assertEqual(shown_at(EXAMPLE, (999, 100)), (999, 100))
        self.assertEqual(shown_at(EXAMPLE, (1000000, 1)), (500007, 1))
        self.assertEqual(caught(self, BeforeStart, shown_at, EXAMPLE, (-1, 10 ** 11)).value, (-1, 10 ** 11))

    def test_times_of(self):
        for course in courses():
            readings = {value_at(course, t) for t in probes(course)} - {None}
            readings |= {fraction(piece[1]) for piece in course}
            for at, piece in enumerate(course[1:]):
                before = course[at]
                t = fraction(piece[0])
                readings.add(fraction(before[1]) + fraction(before[2]) * (t - fraction(before[0])))
            for reading in readings:
                wanted = []
                for start, shown, rate in course:
                    t = fraction(start) + (reading - fraction(shown)) / fraction(rate)
                    if t >= fraction(start) and value_at(course, t) == reading:
                        wanted.append(t)
                wanted = [rat(t) for t in sorted(set(wanted))]
                self.assertEqual(unchanged(self, times_of, course, rat(reading)), wanted)

    def test_times_of_no_one_and_several_pieces(self):
        self.assertEqual(times_of(EXAMPLE, (-1, 1)), [])
        self.assertEqual(times_of(EXAMPLE, (0, 1)), [(0, 1)])
        self.assertEqual(times_of(EXAMPLE, (10, 1)), [])
        self.assertEqual(times_of(EXAMPLE, (12, 1)), [(10, 1)])
        self.assertEqual(times_of(EXAMPLE, (13, 1)), [(12, 1)])
        back = [((0, 1), (0, 1), (1, 1)), ((10, 1), (5, 1), (1, 1)), ((15, 1), (7, 1), (2, 1))]
        self.assertEqual(times_of(back, (5, 1)), [(5, 1), (10, 1)])
        self.assertEqual(times_of(back, (8, 1)), [(8, 1), (13, 1), (31, 2)])
        self.assertEqual(times_of(back, (10, 1)), [(33, 2)])
        self.assertEqual(times_of(back, (9, 1)), [(9, 1), (14, 1), (16, 1)])


class JumpsTest(unittest.TestCase):
    def test_jumps_up_and_down(self):
        self.assertEqual(unchanged(self, jumps, MIXED), [((10, 1), (2, 1)), ((30, 1), (-1, 1))])
        self.assertEqual(jumps(MIXED[:1]), [])
        self.assertEqual(jumps([((0, 1), (0, 1), (1, 1)), ((1, 1), (3, 2), (5, 1))]), [((1, 1), (1, 2))])

    def test_jumps_of_many_courses(self):
        for course in courses():
            wanted = []
            for before, piece in zip(course, course[1:]):
                t = fraction(piece[0])
                would = fraction(before[1]) + fraction(before[2]) * (t - fraction(before[0]))
                if would != fraction(piece[1]):
                    wanted.append((piece[0], rat(fraction(piece[1]) - would)))
            self.assertEqual(unchanged(self, jumps, course), wanted)

    def test_tidy(self):
        self.assertEqual(unchanged(self, tidy, MIXED), MIXED[:2] + MIXED[3:])
        one = MIXED[:1]
        self.assertEqual(tidy(one), one)
        self.assertIsNot(tidy(one), one)
        long = [((k, 1), (k, 1), (1, 1)) for k in range(6)]
        self.assertEqual(tidy(long), long[:1])

    def test_tidy_of_many_courses(self):
        for course in courses():
            result = unchanged(self, tidy, course)
            self.assertEqual(result, plain_tidy(course))
            self.assertEqual(tidy(result), result)
            for t in probes(course):
                self.assertEqual(value_at(result, t), value_at(course, t))

    def test_runs_within(self):
        smooth = [((0, 1), (0, 1), (1, 1)), ((2, 1), (2, 1), (3, 2)), ((4, 1), (5, 1), (1, 2))]
        self.assertIs(runs_within(smooth, (1, 2), (3, 2)), True)
        self.assertIs(runs_within(smooth, (1, 3), (2, 1)), True)
        self.assertIs(runs_within(smooth, (51, 100), (3, 2)), False)
        self.assertIs(runs_within(smooth, (1, 2), (149, 100)), False)
        self.assertIs(runs_within(smooth, (3, 2), (1, 2)), False)
        self.assertIs(runs_within(smooth, (-2, 1), (9, 1)), True)
        self.assertIs(runs_within(smooth, (-2, 1), (-1, 1)), False)
        self.assertIs(runs_within(smooth, (-2, 1), (0, 1)), False)
        self.assertIs(runs_within(smooth[:1], (1, 1), (1, 1)), True)
        self.assertIs(runs_within(smooth[:1], (2, 1), (1, 1)), False)
        self.assertIs(runs_within(MIXED[:2], (1, 10), (9, 1)), False)
        self.assertIs(runs_within(MIXED[2:4], (1, 10), (9, 1)), False)
        self.assertIs(runs_within(MIXED[1:3], (1, 1), (1, 1)), True)


class ChangedTest(unittest.TestCase):
    def check_changed(self, result, course, t, told):
        """The result is tidy, shows the same as the course before t, and told(x) from t on."""
        self.assertTrue(plain_course(result))
        self.assertEqual(plain_tidy(result), result)
        first = max(result[0][0], course[0][0], key=fraction)
        self.assertEqual(first, course[0][0])
        for x in probes(course, result, [(rat(t), (0, 1), (1, 1))]):
            wanted = value_at(course, x) if x < t else told(x)
            self.assertEqual(value_at(result, x), wanted, (course, t, x))

    def test_slewed(self):
        for course in courses():
            for t in probes(course):
                for rate in [(1, 1), (2, 1), (1, 3), course[0][2], course[-1][2]]:
                    if value_at(course, t) is None:
                        self.assertEqual(caught(self, BeforeStart, slewed, course, rat(t), rate).value, rat(t))
                        continue
                    result = unchanged(self, slewed, course, rat(t), rate)
                    shown = value_at(course, t)
                    self.check_changed(result, course, t, lambda x: shown + fraction(rate) * (x - t))

    def test_slewed_keeps_a_jump_at_the_time(self):
        self.assertEqual(slewed(EXAMPLE, (10, 1), (3, 1)), [EXAMPLE[0], ((10, 1), (12, 1), (3, 1))])
        self.assertEqual(slewed(EXAMPLE, (0, 1), (1, 1)), [EXAMPLE[0]])
        self.assertEqual(slewed(EXAMPLE, (5, 1), (1, 1)), [EXAMPLE[0]])
        self.assertEqual(slewed(EXAMPLE, (12, 1), (1, 2)), EXAMPLE)

    def test_slewed_with_a_bad_rate(self):
        for rate in [(0, 1), (-1, 1), (-1, 10 ** 11)]:
            self.assertEqual(caught(self, BadRate, slewed, EXAMPLE, (3, 1), rate).value, rate)
            self.assertEqual(caught(self, BeforeStart, slewed, EXAMPLE, (-3, 1), rate).value, (-3, 1))

    def test_stepped(self):
        for course in courses():
            for t in probes(course):
                for jump in [(0, 1), (2, 1), (-1, 3)]:
                    if value_at(course, t) is None:
                        self.assertEqual(caught(self, BeforeStart, stepped, course, rat(t), jump).value, rat(t))
                        continue
                    result = unchanged(self, stepped, course, rat(t), jump)
                    self.check_changed(result, course, t, lambda x: value_at(course, x) + fraction(jump))

    def test_stepped_at_starts(self):
        self.assertEqual(stepped(EXAMPLE, (0, 1), (3, 1)),
                         [((0, 1), (3, 1), (1, 1)), ((10, 1), (15, 1), (1, 2))])
        self.assertEqual(stepped(EXAMPLE, (10, 1), (-2, 1)),
                         [((0, 1), (0, 1), (1, 1)), ((10, 1), (10, 1), (1, 2))])
        self.assertEqual(stepped(EXAMPLE, (4, 1), (0, 1)), EXAMPLE)
        self.assertEqual(stepped(MIXED[:2], (10, 1), (-2, 1)), MIXED[:1])
        self.assertEqual(stepped(EXAMPLE, (4, 1), (1, 1)),
                         [((0, 1), (0, 1), (1, 1)), ((4, 1), (5, 1), (1, 1)), ((10, 1), (13, 1), (1, 2))])


class ChainedTest(unittest.TestCase):
    def test_many_chains(self):
        rng = random.Random(6)
        met = {"chain": 0, "back": 0, "before": 0}
        for _ in range(400):
            inner = some_course(rng, forward=rng.random() < 0.8)
            outer = some_course(rng)
            falls = [start for start, jump in jumps(inner) if fraction(jump) < 0]
            if falls:
                self.assertEqual(caught(self, TurnsBack, chained, inner, outer).value, falls[0])
                met["back"] += 1
            elif fraction(inner[0][1]) < fraction(outer[0][0]):
                self.assertEqual(caught(self, BeforeStart, chained, inner, outer).value, inner[0][1])
                met["before"] += 1
            else:
                result = unchanged(self, chained, inner, outer)
                self.assertTrue(plain_course(result))
                self.assertEqual(result[0][0], inner[0][0])
                self.assertEqual(plain_tidy(result), result)
                for t in probes(inner, result):
                    shown = value_at(inner, t)
                    self.assertEqual(value_at(result, t), None if shown is None else value_at(outer, shown))
                met["chain"] += 1
        self.assertGreater(min(met.values()), 20)

    def test_plain_chains(self):
        inner = [((0, 1), (0, 1), (2, 1))]
        outer = [((0, 1), (5, 1), (1, 1)), ((10, 1), (15, 1), (3, 1)), ((20, 1), (40, 1), (3, 1))]
        self.assertEqual(chained(inner, outer),
                         [((0, 1), (5, 1), (2, 1)), ((5, 1), (15, 1), (6, 1)), ((10, 1), (40, 1), (6, 1))])
        self.assertEqual(chained(inner, [((-5, 1), (-5, 1), (1, 1))]), inner)
        self.assertEqual(chained([((3, 1), (20, 1), (1, 2))], outer), [((3, 1), (40, 1), (3, 2))])

    def test_an_inner_jump_over_pieces_of_the_outer_course(self):
        inner = [((0, 1), (0, 1), (1, 1)), ((10, 1), (30, 1), (1, 1))]
        outer = [((0, 1), (0, 1), (1, 1)), ((10, 1), (0, 1), (1, 1)), ((20, 1), (0, 1), (2, 1))]
        self.assertEqual(chained(inner, outer), [((0, 1), (0, 1), (1, 1)), ((10, 1), (20, 1), (2, 1))])

    def test_a_reading_that_is_only_come_near_to(self):
        inner = [((0, 1), (0, 1), (1, 1)), ((10, 1), (12, 1), (1, 1))]
        outer = [((0, 1), (0, 1), (1, 1)), ((10, 1), (50, 1), (1, 1))]
        self.assertEqual(chained(inner, outer), [((0, 1), (0, 1), (1, 1)), ((10, 1), (52, 1), (1, 1))])

    def test_errors(self):
        outer = [((0, 1), (0, 1), (1, 1))]
        falls = [((0, 1), (-4, 1), (1, 1)), ((1, 1), (9, 1), (1, 1)), ((2, 1), (8, 1), (1, 1)),
                 ((3, 1), (2, 1), (1, 1))]
        self.assertEqual(caught(self, TurnsBack, chained, falls, outer).value, (2, 1))
        self.assertEqual(caught(self, BeforeStart, chained, falls[:2], outer).value, (-4, 1))
        self.assertEqual(caught(self, BeforeStart, chained, [((0, 1), (-1, 9), (1, 1))], outer).value, (-1, 9))
        self.assertEqual(chained([((-7, 1), (0, 1), (1, 1))], outer), [((-7, 1), (0, 1), (1, 1))])


class WorstErrorTest(unittest.TestCase):
    def plain_worst(self, course, start, end):
        """The supremum from values at borders and just ahead of each start."""
        found = [abs(start - value_at(course, start)), abs(end - value_at(course, end))]
        for before, piece in zip([None] + course, course):
            t = fraction(piece[0])
            if start <= t <= end:
                found.append(abs(t - fraction(piece[1])))
            if before is not None and start < t <= end:
                near = fraction(before[1]) + fraction(before[2]) * (t - fraction(before[0]))
                found.append(abs(t - near))
        return max(found)

    def test_many_courses(self):
        rng = random.Random(7)
        for course in courses():
            times = [t for t in probes(course) if value_at(course, t) is not None]
            for _ in range(25):
                start, end = sorted([rng.choice(times), rng.choice(times)])
                wanted = rat(self.plain_worst(course, start, end))
                self.assertEqual(unchanged(self, worst_error, course, rat(start), rat(end)), wanted)

    def test_a_value_that_a_piece_only_comes_near_to(self):
        fast = [((0, 1), (0, 1), (2, 1)), ((10, 1), (10, 1), (1, 1))]
        self.assertEqual(worst_error(fast, (0, 1), (9, 1)), (9, 1))
        self.assertEqual(worst_error(fast, (0, 1), (10, 1)), (10, 1))
        self.assertEqual(worst_error(fast, (0, 1), (20, 1)), (10, 1))
        self.assertEqual(worst_error(fast, (19, 2), (10, 1)), (10, 1))
        self.assertEqual(worst_error(fast, (10, 1), (20, 1)), (0, 1))
        self.assertEqual(worst_error(fast, (10, 1), (10, 1)), (0, 1))
        self.assertEqual(worst_error(fast, (5, 1), (5, 1)), (5, 1))

    def test_errors_on_both_sides(self):
        slow = [((0, 1), (3, 1), (1, 2))]
        self.assertEqual(worst_error(slow, (0, 1), (6, 1)), (3, 1))
        self.assertEqual(worst_error(slow, (0, 1), (20, 1)), (7, 1))
        self.assertEqual(worst_error(slow, (4, 1), (8, 1)), (1, 1))

    def test_errors(self):
        error = caught(self, EmptySpan, worst_error, EXAMPLE, (3, 1), (2, 1))
        self.assertEqual((error.low, error.high), ((3, 1), (2, 1)))
        self.assertEqual(caught(self, BeforeStart, worst_error, EXAMPLE, (-3, 1), (2, 1)).value, (-3, 1))
        self.assertEqual(caught(self, BeforeStart, worst_error, EXAMPLE, (-3, 1), (-4, 1)).value, (-3, 1))
        error = caught(self, EmptySpan, worst_error, EXAMPLE, (3, 1), (-2, 1))
        self.assertEqual((error.low, error.high), ((3, 1), (-2, 1)))


class ElapsedTest(unittest.TestCase):
    def test_above_and_below_zero(self):
        self.assertEqual(elapsed((6, 1), (1, 2), (3, 1)), ((2, 1), (12, 1)))
        self.assertEqual(elapsed((-6, 1), (1, 2), (3, 1)), ((-12, 1), (-2, 1)))
        self.assertEqual(elapsed((0, 1), (1, 2), (3, 1)), ((0, 1), (0, 1)))
        self.assertEqual(elapsed((5, 1), (1, 1), (1, 1)), ((5, 1), (5, 1)))
        self.assertIs(type(elapsed((5, 1), (1, 1), (1, 1))), tuple)

    def test_bad_rates(self):
        for slow in [(0, 1), (-1, 2)]:
            for fast in [(1, 1), (-1, 1), (0, 1)]:
                self.assertEqual(caught(self, BadRate, elapsed, (1, 1), slow, fast).value, slow)
        self.assertEqual(caught(self, BadRate, elapsed, (-1, 1), (1, 1), (99, 100)).value, (99, 100))
        self.assertEqual(caught(self, BadRate, elapsed, (0, 1), (1, 1), (-1, 1)).value, (-1, 1))


class KeptTest(unittest.TestCase):
    def test_a_returned_course_may_be_changed(self):
        course = copy.deepcopy(MIXED)
        for call, args in [(tidy, ()), (slewed, ((5, 1), (2, 1))), (stepped, ((5, 1), (2, 1))), (jumps, ()),
                           (times_of, ((5, 1),)), (chained, ([((0, 1), (0, 1), (1, 1))],))]:
            subject = MIXED[:3] if call is chained else course
            first = call(subject, *args)
            kept = copy.deepcopy(first)
            first.clear()
            self.assertEqual(call(subject, *args), kept)
        self.assertEqual(course, MIXED)


if __name__ == "__main__":
    unittest.main()
