"""Points 41 to 45, and the interface's steering.py."""

import random
import unittest
from fractions import Fraction

from clockverdict.courses import is_course, jumps, tidy
from clockverdict.errors import BadBound, BadRate, BeforeStart, TurnsBack
from clockverdict.steering import Steering, bound_after, drift_between, laps_until
from tests.support import caught, fraction, rat, some_rational, unchanged


class Plain:
    """Points 41 to 43, written apart from the program, in Fractions."""

    def __init__(self, raw, shown, error, slew, drift, step_over):
        self.slew, self.drift, self.step_over = slew, drift, step_over
        self.first = self.last = raw
        self.pieces = [(raw, shown, Fraction(1))]
        self.error = lambda x: error + drift * x
        self.aim = None

    def display(self, raw):
        for start, shown, rate in self.pieces[::-1]:
            if start <= raw:
                return shown + rate * (raw - start)
        return None

    def error_at(self, raw):
        return self.error(raw - self.last)

    def steer(self, r, span):
        shown, bound, drift, slew = self.display(r), self.error_at(r), self.drift, self.slew
        self.pieces = [piece for piece in self.pieces if piece[0] < r]
        self.last = r
        if span is None or None in span:
            self.pieces.append((r, shown, Fraction(1)))
            self.error = lambda x: bound + drift * x
            self.aim = None
            return
        low, high = max(span[0], shown - bound), min(span[1], shown + bound)
        if low > high:
            low, high = span
        aim, half = (low + high) / 2, (high - low) / 2
        far = max(abs(shown - low), abs(shown - high))
        if self.step_over is not None and aim - shown > self.step_over:
            self.pieces.append((r, aim, Fraction(1)))
            far = half
        elif aim == shown:
            self.pieces.append((r, shown, Fraction(1)))
        else:
            rate = 1 + slew if aim > shown else 1 - slew
            units = abs(aim - shown) / slew
            self.pieces.append((r, shown, rate))
            self.pieces.append((r + units, aim + units, Fraction(1)))
        self.aim = aim
        self.error = lambda x: drift * x + max(far - slew * x, half)

    def course_of(self):
        return tidy([tuple([rat(part) for part in piece]) for piece in self.pieces])


def pair(raw=(0, 1), shown=(0, 1), error=(4, 1), slew=(1, 10), drift=(0, 1), step_over=None):
    """A steering and its plain twin."""
    real = Steering(raw, shown, error, slew=slew, drift=drift, step_over=step_over)
    parts = [fraction(part) for part in (raw, shown, error, slew, drift)]
    return real, Plain(*parts, None if step_over is None else fraction(step_over))


def as_fractions(span):
    return None if span is None else tuple([None if end is None else fraction(end) for end in span])


class SteeringCase(unittest.TestCase):
    def check_equal(self, real, plain):
        """Both answer alike at, between, below and behind all readings of calls and of the course."""
        self.assertEqual(real.aim, None if plain.aim is None else rat(plain.aim))
        course = real.course_of()
        self.assertEqual(course, plain.course_of())
        self.assertTrue(is_course(course))
        self.assertEqual(tidy(course), course)
        raws = {plain.first, plain.last} | {piece[0] for piece in plain.pieces}
        raws = sorted(raws | {raw + Fraction(1, 3) for raw in raws} | {raw - Fraction(1, 7) for raw in raws}
                      | {max(raws) + 50})
        for raw in raws:
            if raw < plain.first:
                self.assertEqual(caught(self, BeforeStart, real.display, rat(raw)).value, rat(raw))
            else:
                self.assertEqual(real.display(rat(raw)), rat(plain.display(raw)))
            if raw < plain.last:
                self.assertEqual(caught(self, TurnsBack, real.error_at, rat(raw)).value, rat(raw))
            else:
                self.assertEqual(real.error_at(rat(raw)), rat(plain.error_at(raw)))

    def steer_both(self, real, plain, raw, span):
        self.assertIsNone(real.steer(raw, span))
        plain.steer(fraction(raw), as_fractions(span))
        self.check_equal(real, plain)

    def check_refused(self, real, plain, raw):
        """Steering back is refused and changes nothing."""
        for span in (None, ((0, 1), (1, 1)), ((50, 1), None)):
            self.assertEqual(caught(self, TurnsBack, real.steer, raw, span).value, raw)
            self.check_equal(real, plain)


class BeginningTest(SteeringCase):
    def test_before_any_call(self):
        for drift in [(0, 1), (1, 20)]:
            real, plain = pair((5, 2), (7, 1), (4, 1), (1, 10), drift)
            self.check_equal(real, plain)
            self.assertIsNone(real.aim)
            self.assertEqual(real.course_of(), [((5, 2), (7, 1), (1, 1))])
            self.check_refused(real, plain, (12, 5))
        self.assertEqual(Steering((0, 1), (0, 1), (4, 1), slew=(1, 2), drift=(1, 20)).error_at((10, 1)), (9, 2))

    def test_left_out_arguments(self):
        one = Steering((0, 1), (1, 1), (2, 1), slew=(1, 10))
        two = Steering((0, 1), (1, 1), (2, 1), slew=(1, 10), drift=(0, 1), step_over=None)
        for steering in (one, two):
            steering.steer((1, 1), ((2, 1), (30, 1)))
        self.assertEqual(one.course_of(), two.course_of())
        self.assertEqual(one.error_at((3, 1)), two.error_at((3, 1)))
        self.assertEqual(jumps(one.course_of()), [])

    def test_wrong_arguments(self):
        good = {"slew": (1, 10), "drift": (1, 20), "step_over": (1, 1)}
        wrong = {"slew": (1, 1), "drift": (2, 1), "step_over": (-1, 1)}
        for kind, value, error, more in [
            (BadBound, (-1, 9), (-1, 9), good), (BadBound, (-1, 9), (-1, 9), wrong),
            (BadRate, (0, 1), (0, 1), {**good, "slew": (0, 1)}), (BadRate, (-1, 2), (0, 1), {**good, "slew": (-1, 2)}),
            (BadRate, (1, 1), (0, 1), wrong), (BadRate, (3, 2), (0, 1), {**wrong, "slew": (3, 2)}),
            (BadRate, (0, 1), (0, 1), {**wrong, "slew": (0, 1)}),
            (BadRate, (-1, 9), (0, 1), {**good, "drift": (-1, 9)}),
            (BadRate, (1, 10), (0, 1), {**good, "drift": (1, 10)}), (BadRate, (2, 1), (0, 1), {**wrong, "slew": (1, 3)}),
            (BadBound, (-1, 9), (0, 1), {**good, "step_over": (-1, 9)}),
        ]:
            self.assertEqual(caught(self, kind, Steering, (0, 1), (0, 1), error, **more).value, value)
        Steering((0, 1), (0, 1), (0, 1), slew=(99, 100), drift=(98, 100), step_over=(0, 1))
        Steering((-5, 1), (-5, 1), (0, 1), slew=(1, 10 ** 11), drift=(0, 1))


class SteerTest(SteeringCase):
    def test_an_aim_above_at_and_below_the_display(self):
        for span in [((2, 1), (4, 1)), ((-2, 1), (2, 1)), ((-4, 1), (-1, 1)), ((3, 1), (3, 1)), ((0, 1), (0, 1)),
                     ((-1, 1), (20, 1)), ((-20, 1), (1, 2)), ((-50, 1), (50, 1)), ((4, 1), (9, 1)), ((-9, 1), (-4, 1))]:
            for drift in [(0, 1), (1, 40)]:
                for raw in [(0, 1), (3, 1)]:
                    real, plain = pair(drift=drift)
                    self.steer_both(real, plain, raw, span)
                    self.check_refused(real, plain, (-1, 9))

    def test_the_course_towards_the_aim(self):
        real, _ = pair()
        real.steer((0, 1), ((2, 1), (4, 1)))
        self.assertEqual(real.aim, (3, 1))
        self.assertEqual(real.course_of(), [((0, 1), (0, 1), (11, 10)), ((30, 1), (33, 1), (1, 1))])
        real, _ = pair()
        real.steer((0, 1), ((-4, 1), (-2, 1)))
        self.assertEqual(real.aim, (-3, 1))
        self.assertEqual(real.course_of(), [((0, 1), (0, 1), (9, 10)), ((30, 1), (27, 1), (1, 1))])
        self.assertEqual([real.error_at((x, 1)) for x in (0, 10, 30, 90)], [(4, 1), (3, 1), (1, 1), (1, 1)])
        real, _ = pair()
        real.steer((2, 1), ((1, 1), (3, 1)))
        self.assertEqual(real.aim, (2, 1))
        self.assertEqual(real.course_of(), [((0, 1), (0, 1), (1, 1))])
        self.assertEqual(real.error_at((9, 1)), (1, 1))

    def test_a_span_with_an_end_none(self):
        for span in [None, (None, None), (None, (9, 1)), ((-9, 1), None), (None, (-50, 1)), ((50, 1), None)]:
            for step_over in [None, (0, 1)]:
                real, plain = pair(drift=(1, 40), step_over=step_over)
                self.steer_both(real, plain, (1, 1), ((2, 1), (4, 1)) if step_over is None else ((1, 1), (1, 1)))
                self.assertIsNotNone(real.aim)
                self.steer_both(real, plain, (5, 1), span)
                self.assertIsNone(real.aim)
                self.assertEqual(real.course_of()[-1][2], (1, 1))
                self.steer_both(real, plain, (9, 1), ((2, 1), (20, 1)))
                self.assertIsNotNone(real.aim)

    def test_a_span_with_an_end_none_keeps_the_error_bound(self):
        real, plain = pair(drift=(1, 40))
        self.steer_both(real, plain, (0, 1), ((2, 1), (4, 1)))
        self.steer_both(real, plain, (10, 1), None)
        self.assertEqual(real.error_at((10, 1)), (13, 4))
        self.assertEqual(real.error_at((50, 1)), (17, 4))
        self.assertEqual(real.display((50, 1)), (51, 1))

    def test_a_span_that_shares_no_time_with_the_display(self):
        for span, aim in [(((5, 1), (7, 1)), (6, 1)), (((-9, 1), (-6, 1)), (-15, 2)),
                          (((4000001, 1000000), (5, 1)), (9000001, 2000000))]:
            real, plain = pair()
            self.steer_both(real, plain, (0, 1), span)
            self.assertEqual(real.aim, aim)

    def test_a_span_that_touches_the_display(self):
        for span, aim in [(((4, 1), (7, 1)), (4, 1)), (((-7, 1), (-4, 1)), (-4, 1)), (((-7, 1), (4, 1)), (0, 1))]:
            real, plain = pair()
            self.steer_both(real, plain, (0, 1), span)
            self.assertEqual(real.aim, aim)

    def test_an_aim_at_and_just_above_step_over(self):
        real, plain = pair(step_over=(3, 1))
        self.steer_both(real, plain, (0, 1), ((2, 1), (4, 1)))
        self.assertEqual(real.course_of(), [((0, 1), (0, 1), (11, 10)), ((30, 1), (33, 1), (1, 1))])
        real, plain = pair(step_over=(3, 1))
        self.steer_both(real, plain, (2, 1), ((4000001, 1000000), (6, 1)))
        self.assertEqual(jumps(real.course_of()), [((2, 1), (6000001, 2000000))])
        self.assertEqual(real.display((199, 100)), (199, 100))
        self.assertEqual(real.display((2, 1)), real.aim)
        real, plain = pair(step_over=(0, 1))
        self.steer_both(real, plain, (2, 1), ((2, 1), (2, 1)))
        self.assertEqual(jumps(real.course_of()), [])
        self.steer_both(real, plain, (3, 1), ((3, 1), (10 ** 6 * 3 + 1, 10 ** 6)))
        self.assertEqual(jumps(real.course_of()), [])

    def test_an_aim_far_below_does_not_jump(self):
        real, plain = pair(step_over=(1, 1))
        self.steer_both(real, plain, (2, 1), ((-60, 1), (-40, 1)))
        self.assertEqual(real.course_of()[1][2], (9, 10))
        self.assertEqual(jumps(real.course_of()), [])

    def test_the_error_bound_behind_a_jump(self):
        real, plain = pair(drift=(1, 40), step_over=(0, 1))
        self.steer_both(real, plain, (0, 1), ((1, 1), (3, 1)))
        self.assertEqual(real.error_at((0, 1)), (1, 1))
        self.assertEqual(real.error_at((40, 1)), (2, 1))

    def test_a_jump_at_the_beginning(self):
        real, plain = pair(raw=(5, 1), step_over=(1, 1))
        self.steer_both(real, plain, (5, 1), ((2, 1), (4, 1)))
        self.assertEqual(real.course_of(), [((5, 1), (3, 1), (1, 1))])
        self.assertEqual(real.display((5, 1)), (3, 1))
        self.check_refused(real, plain, (49, 10))

    def test_two_jumps_at_one_raw_reading(self):
        real, plain = pair(error=(40, 1), step_over=(1, 2))
        self.steer_both(real, plain, (5, 1), ((7, 1), (11, 1)))
        self.assertEqual(real.display((5, 1)), (9, 1))
        self.steer_both(real, plain, (5, 1), ((10, 1), (11, 1)))
        self.assertEqual(real.display((5, 1)), (21, 2))
        self.assertEqual(jumps(real.course_of()), [((5, 1), (11, 2))])
        self.assertEqual(real.display((49, 10)), (49, 10))
        self.steer_both(real, plain, (5, 1), ((10, 1), (10, 1)))
        self.assertEqual(real.display((5, 1)), (21, 2))
        self.steer_both(real, plain, (5, 1), None)

    def test_a_call_before_the_correction_has_ended(self):
        real, plain = pair(drift=(1, 40))
        self.steer_both(real, plain, (0, 1), ((2, 1), (4, 1)))
        self.steer_both(real, plain, (10, 1), ((9, 1), (10, 1)))
        self.assertEqual(real.display((5, 1)), (11, 2))
        self.assertEqual(len(real.course_of()), 3)
        self.steer_both(real, plain, (11, 1), ((-100, 1), (100, 1)))
        self.check_refused(real, plain, (10, 1))
        self.steer_both(real, plain, (11, 1), None)

    def test_a_correction_that_goes_on_is_one_piece(self):
        real, plain = pair()
        self.steer_both(real, plain, (0, 1), ((2, 1), (4, 1)))
        self.steer_both(real, plain, (10, 1), ((12, 1), (14, 1)))
        self.assertEqual(real.course_of(), [((0, 1), (0, 1), (11, 10)), ((30, 1), (33, 1), (1, 1))])

    def test_equal_raw_readings(self):
        real, plain = pair(drift=(1, 40))
        for span in [((2, 1), (4, 1)), ((1, 1), (3, 1)), None, ((-1, 1), (0, 1)), ((1, 2), (3, 4)), ((1, 2), (3, 4))]:
            self.steer_both(real, plain, (7, 1), span)

    def test_a_raw_reading_that_turns_back(self):
        real, plain = pair(drift=(1, 40), step_over=(1, 1))
        self.steer_both(real, plain, (7, 1), ((5, 1), (6, 1)))
        for raw in [(699999, 100000), (0, 1), (-5, 1)]:
            self.check_refused(real, plain, raw)
        self.steer_both(real, plain, (7, 1), ((5, 1), (6, 1)))
        self.steer_both(real, plain, (8, 1), ((9, 1), (12, 1)))

    def test_many_steerings(self):
        rng = random.Random(16)
        for _ in range(150):
            slew = rat(rng.randint(1, 19), 20)
            drift = rat(fraction(slew) * rng.randint(0, 9), 10)
            step_over = rng.choice([None, None, (0, 1), (1, 1), some_rational(rng, 0, 9)])
            real, plain = pair(some_rational(rng), some_rational(rng), some_rational(rng, 0, 9), slew, drift, step_over)
            raw = plain.first
            for _ in range(rng.randint(1, 9)):
                raw += rng.choice([0, fraction(some_rational(rng, 0, 9)), 60])
                if rng.random() < 0.15 and raw > plain.first:
                    self.check_refused(real, plain, rat(plain.last - Fraction(1, 99)))
                middle = plain.display(raw) + fraction(some_rational(rng, -8, 8))
                half = fraction(some_rational(rng, 0, 6))
                span = rng.choice([None, (None, rat(middle))] + [(rat(middle - half), rat(middle + half))] * 6)
                self.steer_both(real, plain, rat(raw), span)


class PromiseTest(unittest.TestCase):
    def check_never_back(self, course, may_jump, slew):
        for start, jump in jumps(course):
            self.assertGreater(fraction(jump), 0)
            self.assertTrue(may_jump)
        for _, _, rate in course:
            self.assertIn(fraction(rate), (1, 1 + slew, 1 - slew))

    def test_the_display_keeps_its_error_bound(self):
        rng = random.Random(17)
        for _ in range(120):
            slew = Fraction(rng.randint(1, 9), 10)
            drift = slew * rng.randint(0, 9) / 10
            error = fraction(some_rational(rng, 0, 9))
            true = fraction(some_rational(rng))
            raw = fraction(some_rational(rng))
            shown = true + error * rng.randint(-4, 4) / 4
            step_over = rng.choice([None, (0, 1), (2, 1)])
            steering = Steering(rat(raw), rat(shown), rat(error), slew=rat(slew), drift=rat(drift),
                                step_over=step_over)
            for _ in range(12):
                low = true - fraction(some_rational(rng, 0, 5))
                high = true + fraction(some_rational(rng, 0, 5))
                span = rng.choice([None, (rat(low), None)] + [(rat(low), rat(high))] * 5)
                if rng.random() < 0.8:
                    steering.steer(rat(raw), span)
                for _ in range(3):
                    off = abs(fraction(steering.display(rat(raw))) - true)
                    self.assertLessEqual(off, fraction(steering.error_at(rat(raw))))
                    units = fraction(some_rational(rng, 0, 7))
                    raw += units
                    true += units * (1 + drift * rng.randint(-4, 4) / 4)
            self.check_never_back(steering.course_of(), step_over is not None, slew)

    def test_laps_bound_the_error(self):
        rng = random.Random(18)
        for _ in range(60):
            slew = Fraction(rng.randint(1, 9), 10)
            drift = slew * rng.randint(0, 9) / 10
            bound = fraction(some_rational(rng, 0, 9))
            half = fraction(some_rational(rng, 0, 3))
            lap = fraction(some_rational(rng, 1, 9))
            true = raw = Fraction(0)
            steering = Steering((0, 1), rat(bound * rng.randint(-2, 2) / 2), rat(bound), slew=rat(slew),
                                drift=rat(drift), step_over=rng.choice([None, (1, 1)]))
            for _ in range(8):
                offset = half * rng.randint(-3, 3) / 3
                steering.steer(rat(raw), (rat(true + offset - half), rat(true + offset + half)))
                bound = fraction(bound_after(rat(bound), rat(half), lap=rat(lap), slew=rat(slew), drift=rat(drift)))
                raw += lap
                true += lap * (1 + drift * rng.randint(-4, 4) / 4)
                self.assertLessEqual(fraction(steering.error_at(rat(raw))), bound)


class DriftTest(unittest.TestCase):
    def test_the_larger_distance(self):
        for slow, fast, wanted in [((1, 1), (1, 1), (0, 1)), ((1, 2), (1, 1), (1, 1)), ((1, 1), (2, 1), (1, 2)),
                                   ((1, 2), (2, 1), (1, 1)), ((4, 5), (2, 1), (1, 2)), ((2, 1), (4, 1), (3, 4)),
                                   ((1, 4), (1, 2), (3, 1)), ((99, 100), (101, 100), (1, 99))]:
            self.assertEqual(unchanged(self, drift_between, slow, fast), wanted)

    def test_bad_rates(self):
        for slow, fast, value in [((0, 1), (1, 1), (0, 1)), ((-1, 1), (-2, 1), (-1, 1)), ((0, 1), (-1, 1), (0, 1)),
                                  ((1, 1), (99, 100), (99, 100)), ((1, 1), (0, 1), (0, 1)), ((2, 1), (-1, 1), (-1, 1))]:
            self.assertEqual(caught(self, BadRate, drift_between, slow, fast).value, value)

    def test_true_time_keeps_the_drift(self):
        rng = random.Random(19)
        for _ in range(200):
            slow, fast = sorted([fraction(some_rational(rng, 1, 9)), fraction(some_rational(rng, 1, 9))])
            drift = fraction(drift_between(rat(slow), rat(fast)))
            offs = [abs(1 / rate - 1) for rate in (slow, fast, (slow + fast) / 2)]
            self.assertEqual(max(offs[:2]), drift)
            self.assertLessEqual(offs[2], drift)


class LapsTest(unittest.TestCase):
    WRONG = [
        (BadBound, (-1, 9), {"bound": (-1, 9)}), (BadBound, (-1, 8), {"half": (-1, 8)}),
        (BadBound, (0, 1), {"lap": (0, 1)}), (BadBound, (-1, 7), {"lap": (-1, 7)}),
        (BadRate, (0, 1), {"slew": (0, 1)}), (BadRate, (-1, 6), {"slew": (-1, 6)}), (BadRate, (1, 1), {"slew": (1, 1)}),
        (BadRate, (9, 8), {"slew": (9, 8)}), (BadRate, (-1, 5), {"drift": (-1, 5)}),
        (BadRate, (1, 10), {"drift": (1, 10)}), (BadRate, (2, 1), {"drift": (2, 1)}),
    ]
    GOOD = {"bound": (4, 1), "half": (1, 1), "lap": (10, 1), "slew": (1, 10), "drift": (1, 20)}
    ORDER = ["bound", "half", "lap", "slew", "drift"]

    def calls(self, parts):
        more = {name: parts[name] for name in ("lap", "slew", "drift")}
        return [(bound_after, (parts["bound"], parts["half"]), more)] + [
            (laps_until, (parts["bound"], parts["half"], goal), more) for goal in [(0, 1), (-5, 1), (3, 1), (99, 1)]]

    def test_each_wrong_argument_alone(self):
        for kind, value, change in self.WRONG:
            for call, args, more in self.calls({**self.GOOD, **change}):
                self.assertEqual(caught(self, kind, call, *args, **more).value, value)

    def test_several_wrong_arguments(self):
        for kind, value, change in self.WRONG:
            for _, _, other in self.WRONG:
                first, second = list(change)[0], list(other)[0]
                if self.ORDER.index(first) < self.ORDER.index(second):
                    for call, args, more in self.calls({**self.GOOD, **change, **other}):
                        self.assertEqual(caught(self, kind, call, *args, **more).value, value)

    def test_bound_after(self):
        for bound, half, lap, slew, drift, wanted in [
            ((4, 1), (1, 1), (10, 1), (1, 10), (0, 1), (3, 1)), ((4, 1), (1, 1), (10, 1), (1, 10), (1, 20), (7, 2)),
            ((1, 1), (4, 1), (10, 1), (1, 10), (1, 20), (9, 2)), ((0, 1), (0, 1), (10, 1), (1, 10), (0, 1), (0, 1)),
            ((2, 1), (1, 1), (10, 1), (1, 10), (0, 1), (1, 1)), ((2, 1), (1, 1), (11, 1), (1, 10), (1, 11), (2, 1)),
        ]:
            result = unchanged(self, bound_after, bound, half, lap=lap, slew=slew, drift=drift)
            self.assertEqual(result, wanted)

    def test_a_goal_met_at_once_later_exactly_and_never(self):
        more = {"lap": (10, 1), "slew": (1, 10), "drift": (1, 20)}
        for bound, half, goal, wanted in [
            ((4, 1), (1, 1), (4, 1), 0), ((4, 1), (1, 1), (5, 1), 0), ((4, 1), (1, 1), (399, 100), 1),
            ((4, 1), (1, 1), (7, 2), 1), ((4, 1), (1, 1), (349, 100), 2), ((4, 1), (1, 1), (3, 1), 2),
            ((4, 1), (1, 1), (3, 2), 5), ((4, 1), (1, 1), (149, 100), None), ((4, 1), (1, 1), (-5, 1), None),
            ((1, 1), (9, 1), (1, 1), 0), ((1, 1), (9, 1), (99, 100), None), ((501, 1), (0, 1), (1, 1), 1000),
            ((0, 1), (0, 1), (0, 1), 0), ((0, 1), (0, 1), (-1, 1), None), ((10, 1), (9, 1), (19, 2), 1),
        ]:
            result = unchanged(self, laps_until, bound, half, goal, **more)
            self.assertEqual(result, wanted, (bound, half, goal))
            if result is not None:
                self.assertIs(type(result), int)

    def test_against_bound_after(self):
        rng = random.Random(20)
        found = []
        for _ in range(500):
            slew = rat(rng.randint(1, 9), 10)
            drift = rat(fraction(slew) * rng.randint(0, 9), 10)
            lap, half = some_rational(rng, 1, 9), some_rational(rng, 0, 5)
            bound, goal = some_rational(rng, 0, 12), some_rational(rng, -1, 12)
            if rng.random() < 0.3:
                goal = rat(fraction(half) + fraction(drift) * fraction(lap))
            after, laps = bound, 0
            while fraction(after) > fraction(goal) and laps < 2000:
                after = bound_after(after, half, lap=lap, slew=slew, drift=drift)
                laps += 1
            wanted = laps if fraction(after) <= fraction(goal) else None
            self.assertEqual(laps_until(bound, half, goal, lap=lap, slew=slew, drift=drift), wanted)
            found.append(wanted)
        self.assertGreater(found.count(None), 50)
        self.assertGreater(found.count(0), 50)
        self.assertGreater(len(set(found)), 8)


class KeptTest(unittest.TestCase):
    def test_a_returned_course_may_be_changed(self):
        steering = Steering((0, 1), (0, 1), (4, 1), slew=(1, 10))
        steering.steer((0, 1), ((2, 1), (4, 1)))
        course = steering.course_of()
        course.append("x")
        course[0] = None
        self.assertEqual(steering.course_of(), [((0, 1), (0, 1), (11, 10)), ((30, 1), (33, 1), (1, 1))])
        self.assertEqual(steering.display((10, 1)), (11, 1))
        self.assertIsNot(steering.course_of(), steering.course_of())

    def test_two_steerings_share_nothing(self):
        one = Steering((0, 1), (0, 1), (4, 1), slew=(1, 10))
        two = Steering((0, 1), (0, 1), (4, 1), slew=(1, 10))
        one.steer((3, 1), ((5, 1), (6, 1)))
        self.assertEqual(two.course_of(), [((0, 1), (0, 1), (1, 1))])
        self.assertIsNone(two.aim)
        two.steer((2, 1), ((1, 1), (2, 1)))
        self.assertEqual(one.aim, (11, 2))


if __name__ == "__main__":
    unittest.main()
