"""The interface: names, parameters, defaults, and where each function, class and method is defined."""

import importlib
import inspect
import unittest

FUNCTIONS = {
    "exact": ["rational(n, d=1)", "is_rational(value)", "add(a, b)", "subtract(a, b)", "multiply(a, b)", "negate(a)",
              "divide(a, b)", "distance(a, b)", "compare(a, b)", "smaller(a, b)", "larger(a, b)", "total(*parts)",
              "floor_of(a)", "rational_text(a)", "read_rational(text)"],
    "spans": ["is_span(value)", "make_span(low=None, high=None)", "span_holds(span, t)", "width_of(span)",
              "middle_of(span)", "far_end(span, t)", "meet(a, b)", "meet_all(*spans)", "hull(a, b)",
              "shift(span, by)", "widen(span, by)"],
    "courses": ["is_course(value)", "shown_at(course, t)", "times_of(course, reading)", "jumps(course)",
                "tidy(course)", "runs_within(course, slow, fast)", "slewed(course, t, rate)",
                "stepped(course, t, jump)", "chained(inner, outer)", "worst_error(course, start, end)",
                "elapsed(d, slow, fast)"],
    "worlds": ["is_world(count, claims, value, *, liars=())", "broken(claims, world)", "liars_in(claims, world)",
               "is_way(claims, value, start, goal, *, liars=())", "way_sum(claims, way)",
               "is_ring(claims, value, *, liars=())", "settle(count, claims, *, liars=())"],
    "bounds": ["least_bound(count, claims, start, goal, *, liars=())",
               "bound_way(count, claims, start, goal, *, liars=())",
               "narrowest(count, claims, moment, *, liars=())", "world_at(count, claims, moment, at, *, liars=())",
               "span_certificate(count, claims, moment, *, liars=())",
               "is_span_certificate(count, claims, moment, value, *, liars=())",
               "all_bounds(count, claims, *, liars=())"],
    "steering": ["drift_between(slow, fast)", "bound_after(bound, half, *, lap, slew, drift)",
                 "laps_until(bound, half, goal, *, lap, slew, drift)"],
}

CLASSES = {
    ("nets", "Net"): {
        "__init__": "(self)",
        "add_clock": "(self, name, *, slow=(1, 1), fast=(1, 1), error=None)",
        "add_link": "(self, start, goal, *, low=(0, 1), high=None)",
        "names": "(self)", "links": "(self)", "rates_of": "(self, name)", "error_of": "(self, name)",
        "has_link": "(self, start, goal)", "delay_of": "(self, start, goal)", "clone": "(self)",
    },
    ("steering", "Steering"): {
        "__init__": "(self, raw, shown, error, *, slew, drift=(0, 1), step_over=None)",
        "steer": "(self, raw, span)", "display": "(self, raw)", "error_at": "(self, raw)", "course_of": "(self)",
    },
}


def module_of(name):
    return importlib.import_module("clockverdict." + name)


class InterfaceTest(unittest.TestCase):
    def test_functions(self):
        for file, lines in FUNCTIONS.items():
            for line in lines:
                name = line.partition("(")[0]
                call = getattr(module_of(file), name)
                self.assertTrue(inspect.isfunction(call), line)
                self.assertEqual(call.__module__, "clockverdict." + file)
                self.assertEqual(name + str(inspect.signature(call)), line)

    def test_classes(self):
        for (file, name), methods in CLASSES.items():
            kind = getattr(module_of(file), name)
            self.assertTrue(inspect.isclass(kind))
            self.assertEqual(kind.__module__, "clockverdict." + file)
            for method, wanted in methods.items():
                self.assertIn(method, vars(kind))
                self.assertEqual(str(inspect.signature(vars(kind)[method])), wanted, method)

    def test_the_aim_is_a_property(self):
        self.assertIsInstance(vars(module_of("steering").Steering)["aim"], property)


if __name__ == "__main__":
    unittest.main()
