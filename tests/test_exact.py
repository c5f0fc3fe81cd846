"""Points 9 and 10, and the interface's exact.py."""

import random
import unittest

from clockverdict import exact
from clockverdict.errors import BadNumber, ZeroDivisor
from clockverdict.exact import (add, compare, distance, divide, floor_of, is_rational, larger, multiply, negate,
                                order_of, rational, rational_text, read_rational, smaller, subtract, total, weights_of)
from tests.support import (ODD_VALUES, caught, check_judge, fraction, plain_rational, rat, some_rational, spoiled,
                           unchanged)

LONG = 7 ** 1000
LONGER = 3 ** 2000


def samples():
    rng = random.Random(1)
    found = [(0, 1), (1, 1), (-1, 1), (1, 2), (-1, 2), (7, 2), (-7, 2), (10 ** 12 - 1, 1), (1, 10 ** 12 - 1),
             (-(10 ** 12) + 1, 10 ** 12 - 11), (LONG, LONGER), (-LONGER, LONG), (LONG + 1, 1), (1, LONG),
             (5, 6), (7, 10), (-3, 4), (4, 3)]
    for _ in range(30):
        found.append(some_rational(rng, -30, 30, 12))
    return [rat(fraction(value)) for value in found]


class RationalTest(unittest.TestCase):
    def check_form(self, value):
        self.assertIs(type(value), tuple)
        self.assertEqual(len(value), 2)
        self.assertIs(type(value[0]), int)
        self.assertIs(type(value[1]), int)
        self.assertTrue(plain_rational(value), value)

    def test_signs_and_lowest_terms(self):
        for n, d, wanted in [(6, 4, (3, 2)), (-6, 4, (-3, 2)), (6, -4, (-3, 2)), (-6, -4, (3, 2)), (0, 5, (0, 1)),
                             (0, -5, (0, 1)), (0, 1, (0, 1)), (0, -1, (0, 1)), (8, 4, (2, 1)), (8, -4, (-2, 1)),
                             (1, 1, (1, 1)), (-1, -1, (1, 1)), (1, -1, (-1, 1)), (3, 7, (3, 7)),
                             (6 * LONG, -4 * LONG, (-3, 2)), (LONG, LONGER, (LONG, LONGER))]:
            result = unchanged(self, rational, n, d)
            self.assertEqual(result, wanted)
            self.check_form(result)

    def test_the_divisor_is_one_if_left_out(self):
        for n in (0, 1, -1, 6, -6, LONG):
            self.assertEqual(rational(n), (n, 1))
            self.assertEqual(rational(n), rational(n, 1))

    def test_a_divisor_of_zero(self):
        for n in (0, 1, -1, LONG):
            caught(self, ZeroDivisor, rational, n, 0)

    def test_all_small_fractions(self):
        for n in range(-12, 13):
            for d in list(range(-12, 0)) + list(range(1, 13)):
                self.assertEqual(rational(n, d), rat(n, d))
                self.check_form(rational(n, d))

    def test_sums_and_products(self):
        for a in samples():
            for b in samples():
                x, y = fraction(a), fraction(b)
                for call, wanted in [(add, x + y), (subtract, x - y), (multiply, x * y), (distance, abs(x - y)),
                                     (smaller, min(x, y)), (larger, max(x, y))]:
                    result = call(a, b)
                    self.assertEqual(result, rat(wanted), (call, a, b))
                    self.check_form(result)

    def test_a_sum_that_loses_part_of_its_denominator(self):
        self.assertEqual(add((1, 6), (1, 3)), (1, 2))
        self.assertEqual(add((1, 6), (-1, 6)), (0, 1))
        self.assertEqual(add((1, 12), (1, 6)), (1, 4))
        self.assertEqual(subtract((5, 6), (1, 3)), (1, 2))
        self.assertEqual(add((3, 10), (1, 15)), (11, 30))
        self.assertEqual(add((1, 10), (1, 15)), (1, 6))

    def test_division(self):
        for a in samples():
            for b in samples():
                if b == (0, 1):
                    caught(self, ZeroDivisor, divide, a, b)
                else:
                    result = divide(a, b)
                    self.assertEqual(result, rat(fraction(a) / fraction(b)))
                    self.check_form(result)

    def test_negation(self):
        for a in samples():
            self.assertEqual(negate(a), rat(-fraction(a)))
            self.check_form(negate(a))
            self.assertEqual(negate(negate(a)), a)
        self.assertEqual(negate((0, 1)), (0, 1))

    def test_compare_by_value(self):
        for a in samples():
            for b in samples():
                answer = compare(a, b)
                self.assertIs(type(answer), int)
                x, y = fraction(a), fraction(b)
                self.assertEqual(answer, 0 if x == y else (-1 if x < y else 1))
        self.assertEqual(compare((1, 2), (1, 3)), 1)
        self.assertEqual(compare((-1, 2), (-1, 3)), -1)
        self.assertEqual(compare((LONG, LONG + 1), (LONG + 1, LONG + 2)), -1)

    def test_total_of_no_to_forty_parts(self):
        rng = random.Random(2)
        for many in range(41):
            parts = [some_rational(rng, -90, 90, 30) for _ in range(many)]
            result = unchanged(self, total, *parts)
            self.assertEqual(result, rat(sum([fraction(part) for part in parts])))
            self.check_form(result)
        self.assertEqual(total(), (0, 1))
        self.assertEqual(total((5, 3)), (5, 3))
        self.assertEqual(total((1, LONG), (-1, LONG), (1, 3)), (1, 3))

    def test_floor(self):
        for a, wanted in [((-7, 2), -4), ((7, 2), 3), ((0, 1), 0), ((4, 1), 4), ((-4, 1), -4), ((1, 3), 0),
                          ((-1, 3), -1), ((99, 100), 0), ((-101, 100), -2), ((LONG * 5 + 1, 5), LONG)]:
            result = floor_of(a)
            self.assertEqual(result, wanted)
            self.assertIs(type(result), int)
        for a in samples():
            whole = floor_of(a)
            self.assertTrue(whole <= fraction(a) < whole + 1)

    def test_weights_are_the_values_times_one_factor(self):
        values = samples()[:9]
        weights = unchanged(self, weights_of, values)
        factor = weights[1]
        self.assertGreater(factor, 0)
        for value, weight in zip(values, weights):
            self.assertIs(type(weight), int)
            self.assertEqual(fraction(value) * factor, weight)
        self.assertEqual(weights_of([]), [])

    def test_order_by_value_and_then_by_index(self):
        values = samples()
        order = unchanged(self, order_of, values)
        self.assertEqual(order, sorted(range(len(values)), key=lambda at: (fraction(values[at]), at)))
        self.assertEqual(order_of([(1, 2), (1, 3), (1, 2), (-1, 2), (1, 3)]), [3, 1, 4, 0, 2])
        self.assertEqual(order_of([]), [])

    def test_constants_are_rationals(self):
        for value, wanted in [(exact.ZERO, 0), (exact.ONE, 1), (exact.HALF, rat(1, 2))]:
            self.check_form(value)
            self.assertEqual(value, wanted if type(wanted) is tuple else rat(wanted))


class WrittenFormTest(unittest.TestCase):
    def test_both_ways(self):
        for a, text in [((0, 1), "0"), ((-3, 1), "-3"), ((7, 2), "7/2"), ((-7, 2), "-7/2"), ((1, 1), "1"),
                        ((10, 1), "10"), ((1, 10), "1/10"), ((999999999, 1), "999999999"),
                        ((-999999999, 999999998), "-999999999/999999998"), ((1, 999999999), "1/999999999"),
                        ((100000000, 999999999), "100000000/999999999"), ((-1, 2), "-1/2")]:
            self.assertEqual(rational_text(a), text)
            self.assertIs(type(rational_text(a)), str)
            result = read_rational(text)
            self.assertEqual(result, a)
            self.assertTrue(plain_rational(result))

    def test_many_both_ways(self):
        for a in samples():
            text = rational_text(a)
            x = fraction(a)
            self.assertEqual(text, str(x))
            if max(len(str(abs(a[0]))), len(str(a[1]))) <= 9:
                self.assertEqual(read_rational(text), a)
            else:
                self.assertEqual(caught(self, BadNumber, read_rational, text).text, text)

    def test_text_of_long_integers(self):
        self.assertEqual(rational_text((10 ** 999, 1)), "1" + "0" * 999)
        self.assertEqual(rational_text((-1, 10 ** 999)), "-1/1" + "0" * 999)

    def test_texts_that_are_no_written_form(self):
        for text in ["", " ", "+1", "+", "-", "--1", "-+1", "01", "00", "-01", "-0", "0/1", "0/2", "1/0", "0/0", "5/1",
                     "-5/1", "1/-2", "-1/-2", "1/+2", "2/4", "-2/4", "6/3", "1/02", "1/", "/2", "/", "-/2", "1//2",
                     "1/2/3", " 1", "1 ", "1 /2", "1/ 2", "1/2 ", "- 1", "1.0", "1.5", "1e3", "0x1", "1_0", "a", "one",
                     "1,5", "1000000000", "-1000000000", "1/1000000000", "1234567890/7", "0000000001", "1\t",
                     "None", "True", "(1, 2)", "1/2/", "~", "1" * 200, "-1/00", "1/-0", "0/", "-0/1", "-0/3", "3/1",
                     "999999999/3", "1/0000000002"]:
            error = caught(self, BadNumber, read_rational, text)
            self.assertEqual(error.text, text)

    def test_every_short_text(self):
        signs = "-/012 +"
        texts = [""]
        for _ in range(4):
            texts = texts + [text + sign for text in texts if len(text) < 4 for sign in signs]
        written = {}
        for n in range(-300, 301):
            for d in range(1, 300):
                if plain_rational((n, d)):
                    written[str(n) if d == 1 else f"{n}/{d}"] = (n, d)
        for n in range(-2300, 2300):
            written[str(n)] = (n, 1)
        for text in sorted(set(texts)):
            if text in written:
                self.assertEqual(read_rational(text), written[text])
            else:
                self.assertEqual(caught(self, BadNumber, read_rational, text).text, text)


class IsRationalTest(unittest.TestCase):
    def test_odd_values(self):
        check_judge(self, is_rational, plain_rational, ODD_VALUES)

    def test_right_values(self):
        for value in samples() + [(3 ** 40000, 2 ** 60000), (-5, 2), (0, 1)]:
            self.assertIs(is_rational(value), True)

    def test_one_thing_wrong(self):
        for value in [(0, 1), (1, 2), (-7, 3), (12, 5), (LONG, LONGER)]:
            counts = check_judge(self, is_rational, plain_rational, list(spoiled(value)))
            self.assertGreater(counts[False], 20)

    def test_wrong_values(self):
        for value in [(2, 4), (0, 2), (0, 0), (1, 0), (1, -2), (-1, -2), (True, 1), (1, True), (False, True), [1, 2],
                      (1,), (1, 2, 3), "1/2", 1, None, {}, ((1, 2),), (1, "2"), (1, None), ([1], 2), (LONG, LONG),
                      (6 * LONG, 4 * LONGER), {1: 2}, {1: 2, 3: 4}]:
            self.assertIs(is_rational(value), False)


if __name__ == "__main__":
    unittest.main()
