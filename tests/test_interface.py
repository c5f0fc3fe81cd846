"""The interface: names, parameters, defaults, and where each function, class and method is defined."""

import importlib
import inspect
import unittest

FUNCTIONS = {
    "exact": ["rational(n, d=1)", "is_rational(value)", "add(a, b)", "subtract(a, b)", "multiply(a, b)", "negate(a)",
              "divide(a, b)", "distance(a, b)", "compare(a, b)", "smaller(a, b)", "larger(a, b)", "total(*parts)",
              "floor_of(a)", "rational_text(a)", "read_rational(text)"],
    "spans": ["is_span(value)", "make_span(low=None, high=None)", "span_holds(span, t)", "width_of(span)",
              "middle_of(span)", "far_end(span, t)", "meet(a, b)", "meet_all(*spans)", "hull(a, b)",
              "shift(span, by)", "widen(span, by)"],
    "courses": ["is_course(value)", "shown_at(course, t)", "times_of(course, reading)", "jumps(course)",
                "tidy(course)", "runs_within(course, slow, fast)", "slewed(course, t, rate)",
                "stepped(course, t, jump)", "chained(inner, outer)", "worst_error(course, start, end)",
                "elapsed(d, slow, fast)"],
    "worlds": ["is_world(count, claims, value, *, liars=())", "broken(claims, world)", "liars_in(claims, world)",
               "is_way(claims, value, start, goal, *, liars=())", "way_sum(claims, way)",
               "is_ring(claims, value, *, liars=())", "settle(count, claims, *, liars=())"],
    "bounds": ["least_bound(count, claims, start, goal, *, liars=())",
               "bound_way(count, claims, start, goal, *, liars=())",
               "narrowest(count, claims, moment, *, liars=())", "world_at(count, claims, moment, at, *, liars=())",
               "span_certificate(count, claims, moment, *, liars=())",
               "is_span_certificate(count, claims, moment, value, *, liars=())",
               "all_bounds(count, claims, *, liars=())"],
    "notes": ["is_note(value)", "require_sound(net, notes)", "clock_of(note)", "reading_of(note)",
              "readings_of(notes, clock)", "messages_of(notes)", "lost_tags(notes)", "double_tags(notes)",
              "round_trip(stamps)", "plain_offset(stamps)", "offset_span(stamps, forth, back)",
              "exchange_notes(stamps, client, server, *, tag=1)", "exchanges_of(notes, client, server)"],
    "claims": ["is_claim(value)", "claims_of(net, notes)", "owners_of(claims)"],
    "liars": ["small_sets(names, most)", "excuses(count, claims, names, most)",
              "least_excuses(count, claims, names, most)", "roles(count, claims, names, most)",
              "least_count(count, claims, names)", "case_against(count, claims, names, most, *, liars=())",
              "is_case(claims, names, most, value, *, liars=())"],
    "verdicts": ["pinned(claims, moment, at)", "left_by(count, claims, names, most, moment)",
                 "verdict_span(count, claims, names, most, moment)",
                 "left_certificate(count, claims, names, most, moment)",
                 "is_left_certificate(count, claims, names, most, moment, value)",
                 "time_certificate(count, claims, names, most, moment, at)",
                 "is_time_certificate(count, claims, names, most, moment, at, value)",
                 "role_certificate(count, claims, names, most, name)",
                 "is_role_certificate(count, claims, names, most, name, value)",
                 "least_certificate(count, claims, names)", "is_least_certificate(count, claims, names, value)"],
    "choosing": ["depth_at(votes, t)", "met_by(votes, number)", "most_met(votes)", "outliers(votes, most)",
                 "thinned(votes, *, keep=3)", "weighed(votes)", "choose(votes, most, *, keep=3)",
                 "choice_error(votes, most, *, keep=3)", "claims_of_votes(votes, moment)",
                 "alone_votes(count, claims, names, moment)", "plain_cover(count, claims, names, most, moment)",
                 "compare_at(count, claims, names, most, moment, at)"],
    "layers": ["settled(roots, offers)", "is_settled(roots, offers, value)",
               "layered_net(layers, *, slow=(1, 1), fast=(1, 1))"],
    "machine": ["final_course(play, name)", "run(play)", "true_liars(play)",
                "keeps_promise(net, name, course, *, start, end)",
                "pilot(play, name, *, error, slew, step_over=None)"],
    "days": ["is_date(value)", "is_leap_year(value)", "day_of(year, month, day)", "date_of(day)", "date_text(day)",
             "read_date(text)"],
    "leaps": ["label_text(leaps, t)", "read_label(leaps, text)"],
    "seals": ["seal_of(key, counter, cells)", "sealed_entry(key, sender, counter, cells)", "is_sealed(key, value)",
              "cells_of(note)", "note_of(cells)", "seal_notes(keys, notes)", "open_entries(keys, entries)"],
    "wording": ["read_play(text)", "print_play(play)"],
    "audits": ["audit(net, notes, most, *, trusted=())", "is_audit(net, notes, most, value, *, trusted=())",
               "audit_entries(net, keys, entries, most, *, trusted=())", "condemn_liars(layers, verdicts)",
               "true_times_left(play, *, trusted=())"],
    "journals": ["replay(net, log, *, most=0, trusted=())"],
    "twins": ["boxed(count, claims, low, high)", "grid_worlds(count, claims, low, high, *, liars=())",
              "grid_times(count, claims, names, most, moment, low, high)"],
    "asking": ["planned(net, notes, server, asker, *, stamp, reading)",
               "span_now(net, notes, most, asker, *, reading, trusted=())",
               "span_after(net, notes, most, server, asker, *, stamp, reading, trusted=())",
               "worst_width(net, notes, most, server, asker, *, stamps, reading, trusted=())",
               "best_plan(net, notes, most, asker, plans, *, reading, trusted=())",
               "promised_width(net, notes, server, asker, *, reading)", "worst_stamp(net, notes, server, asker, *, reading)",
               "best_server(net, notes, asker, *, reading)"],
    "steering": ["drift_between(slow, fast)", "bound_after(bound, half, *, lap, slew, drift)",
                 "laps_until(bound, half, goal, *, lap, slew, drift)"],
}

CLASSES = {
    ("covers", "Cover"): {
        "__init__": "(self, spans=())", "__iter__": "(self)", "__or__": "(self, other)", "__and__": "(self, other)",
        "__add__": "(self, other)", "count": "(self)", "holds": "(self, t)", "hull_span": "(self)",
        "inside": "(self, other)", "nearest": "(self, t)", "measure": "(self)",
    },
    ("plays", "Play"): {
        "__init__": "(self, net, *, most=0)", "base_net": "(self)", "set_truth": "(self, name, course)",
        "truths": "(self)", "truth_of": "(self, name)", "add_send": "(self, tag, start, goal, *, at, delay)",
        "add_again": "(self, tag, *, delay)", "add_mark": "(self, name, *, at)",
        "add_step": "(self, name, *, at, jump)", "add_slew": "(self, name, *, at, rate)", "deeds": "(self)",
    },
    ("layers", "Layers"): {
        "__init__": "(self)", "add_root": "(self, name, *, error=(0, 1))", "add_server": "(self, name)",
        "offer": "(self, child, parent, *, hop=(0, 1))", "withdraw": "(self, child, parent)",
        "silence": "(self, name)", "wake": "(self, name)", "condemn": "(self, name)", "state_of": "(self, name)",
        "error_of": "(self, name)", "layer_of": "(self, name)", "parent_of": "(self, name)", "way_of": "(self, name)",
        "followers_of": "(self, name)", "names": "(self)", "table": "(self)", "clone": "(self)",
    },
    ("leaps", "Leaps"): {
        "__init__": "(self, rows=())", "__iter__": "(self)", "length_of": "(self, day)", "start_of": "(self, day)",
        "label_of": "(self, t)", "time_of": "(self, day, second, part=(0, 1))",
        "smeared": "(self, t, *, window=7200)", "unsmeared": "(self, reading, *, window=7200)",
        "smear_course": "(self, first, last, *, window=7200)",
    },
    ("seals", "Gate"): {
        "__init__": "(self, keys)", "examine": "(self, entries)", "admit_all": "(self, entries)",
        "admit": "(self, entry)", "seen": "(self, sender)", "missing": "(self, sender)",
    },
    ("journals", "Journal"): {
        "__init__": "(self, net, *, most=0, trusted=())", "write": "(self, note, *, final=False)", "undo": "(self)",
        "redo": "(self)", "close": "(self)", "notes": "(self)", "log": "(self)", "left": "(self, moment)",
        "told": "(self, moment)", "plain": "(self, moment)", "roles": "(self)", "least": "(self)",
    },
    ("arbiter", "Arbiter"): {
        "__init__": "(self, net, layers, keys, *, own, most=0, slew, error, step_over=None)", "hear": "(self, entries)",
        "tick": "(self, reading)", "notes": "(self)", "roles": "(self)", "display": "(self, raw)", "leader": "(self)",
        "table": "(self)",
    },
    ("nets", "Net"): {
        "__init__": "(self)",
        "add_clock": "(self, name, *, slow=(1, 1), fast=(1, 1), error=None)",
        "add_link": "(self, start, goal, *, low=(0, 1), high=None)",
        "names": "(self)", "links": "(self)", "rates_of": "(self, name)", "error_of": "(self, name)",
        "has_link": "(self, start, goal)", "delay_of": "(self, start, goal)", "clone": "(self)",
    },
    ("steering", "Steering"): {
        "__init__": "(self, raw, shown, error, *, slew, drift=(0, 1), step_over=None)",
        "steer": "(self, raw, span)", "display": "(self, raw)", "error_at": "(self, raw)", "course_of": "(self)",
    },
}


def module_of(name):
    return importlib.import_module("clockverdict." + name)


class InterfaceTest(unittest.TestCase):
    def test_functions(self):
        for file, lines in FUNCTIONS.items():
            for line in lines:
                name = line.partition("(")[0]
                call = getattr(module_of(file), name)
                self.assertTrue(inspect.isfunction(call), line)
                self.assertEqual(call.__module__, "clockverdict." + file)
                self.assertEqual(name + str(inspect.signature(call)), line)

    def test_classes(self):
        for (file, name), methods in CLASSES.items():
            kind = getattr(module_of(file), name)
            self.assertTrue(inspect.isclass(kind))
            self.assertEqual(kind.__module__, "clockverdict." + file)
            for method, wanted in methods.items():
                self.assertIn(method, vars(kind))
                self.assertEqual(str(inspect.signature(vars(kind)[method])), wanted, method)

    def test_properties_and_the_static_method(self):
        for file, name, part in [("steering", "Steering", "aim"), ("covers", "Cover", "empty"),
                                 ("plays", "Play", "liar_limit")]:
            self.assertIsInstance(vars(getattr(module_of(file), name))[part], property)
        self.assertIsInstance(vars(module_of("covers").Cover)["everything"], staticmethod)

    def test_values_that_stand_under_a_name(self):
        self.assertEqual(repr(vars(module_of("leaps").Leaps)["DAY"]), "86400")
        self.assertEqual(repr(module_of("seals").MODULUS), "2147483647")


if __name__ == "__main__":
    unittest.main()
