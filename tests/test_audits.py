"""Points 68 and 69, point 63 for times left, and the interface's audits.py."""

import random
import unittest

from clockverdict.audits import audit, audit_entries, condemn_liars, is_audit, true_times_left
from clockverdict.errors import BadNote, RefusedEntry
from clockverdict.layers import Layers
from clockverdict.machine import run, true_liars
from clockverdict.nets import Net
from clockverdict.plays import Play
from clockverdict.seals import cells_of, seal_notes, sealed_entry
from tests.claiming import plain_ring
from tests.judging import excuses_of, good_case, left_of, least_of, plain_case, roles_of
from tests.noting import FAULTY, plain_fault, sample_net, sound_notes
from tests.support import BIG, ODD_VALUES, boxes, caught, check_judge, laid_open, spoiled, unchanged
from tests.test_claims import plain_claims
from tests.test_machine import plain_liars, plain_run, play_of, some_play

TRUSTED = [[], (), ["a"], ("a", "b"), ["b", "zz"], ("zz",), ["d", "c", "b", "a"], ["a", "a"]]


# Points 68 and 69, written apart from the program.

def plain_suspects(net, trusted):
    return sorted(set(net.names()) - set(trusted))


def plain_report(net, notes, most, trusted=()):
    """The first four parts of the report."""
    claims, names, count = plain_claims(net, notes), plain_suspects(net, trusted), len(notes) + 1
    found = excuses_of(count, claims, names, most)
    least = least_of(count, claims, names)
    if not found:
        return (False, least, {}, [])
    spans = []
    for moment in range(1, count):
        left = left_of(count, claims, names, most, moment)
        spans.append((left[0][0], left[-1][1]))
    return (True, least, roles_of(found, names), spans)


def in_order(roles):
    """The roles with ascending keys, so that two dicts are told apart by what they hold alone."""
    return {name: roles[name] for name in sorted(roles, key=repr)}


def plain_audit(net, notes, most, value, trusted, wanted):
    if type(value) is not tuple or len(value) != 5 or type(value[2]) is not dict:
        return False
    # Laid open, so that 1 is not True and a list is not a tuple.
    if laid_open(value[:2] + (in_order(value[2]),) + value[3:4]) != laid_open(wanted):
        return False
    if wanted[0]:
        return type(value[4]) is list and value[4] == []
    return plain_case(plain_claims(net, notes), plain_suspects(net, trusted), most, value[4])


def simple_net(*clocks, links=()):
    """A net of clocks (name, error) that run at rate 1, and of links (start, goal, low, high)."""
    net = Net()
    for name, error in clocks:
        net.add_clock(name, error=error)
    for start, goal, low, high in links:
        net.add_link(start, goal, low=low, high=high)
    return net


def three_clocks(first, second, third):
    """A net and notes of three clocks, each two of them joined by a message that takes no time."""
    net = simple_net(("a", (1, 1)), ("b", (1, 1)), ("c", (1, 1)),
                     links=[(start, goal, (0, 1), (0, 1)) for start, goal in ("ab", "ac", "bc")])
    return net, [("sent", 1, "a", first, "b"), ("got", 1, "b", second), ("sent", 2, "a", first, "c"), ("got", 2, "c", third),
                 ("sent", 3, "b", second, "c"), ("got", 3, "c", third)]


# Each is at most 1 off; so the readings fit without a liar, with one of them, and with two.
HONEST = three_clocks((5, 1), (6, 1), (6, 1))
ONE_LIES = three_clocks((5, 1), (6, 1), (50, 1))
TWO_LIE = three_clocks((5, 1), (50, 1), (90, 1))


class AuditTest(unittest.TestCase):
    def check(self, net, notes, most, trusted=()):
        report = unchanged(self, lambda *parts: audit(*parts[:3], trusted=parts[3]), net, notes, most, trusted)
        wanted = plain_report(net, notes, most, trusted)
        self.assertEqual(laid_open(report[:4]), laid_open(wanted))
        self.assertIs(type(report), tuple)
        self.assertEqual(len(report), 5)
        if report[0]:
            self.assertEqual(report[4], [])
            self.assertEqual(list(report[2]), sorted(report[2]))
        else:
            self.assertLessEqual(len(report[4]), 64)
            self.assertTrue(good_case(plain_claims(net, notes), plain_suspects(net, trusted), most, report[4], len(notes) + 1))
        self.assertIs(is_audit(net, notes, most, report, trusted=trusted), True)
        return report

    def test_the_document(self):
        net = simple_net(("a", (0, 1)))
        self.assertEqual(self.check(net, [("mark", "a", (1, 1)), ("mark", "a", (3, 1))], 0),
                         (True, 0, {"a": "honest"}, [((1, 1), (1, 1)), ((3, 1), (3, 1))], []))

    def test_notes_that_fit(self):
        self.assertEqual(self.check(*HONEST, 0)[:3], (True, 0, {"a": "honest", "b": "honest", "c": "honest"}))
        self.assertEqual(self.check(*HONEST, 1)[:3], (True, 0, {"a": "open", "b": "open", "c": "open"}))
        self.assertEqual(self.check(*ONE_LIES, 1)[:3], (True, 1, {"a": "honest", "b": "honest", "c": "liar"}))
        self.assertEqual(self.check(*ONE_LIES, 3)[1], 1)

    def test_notes_that_do_not_fit(self):
        report = self.check(*ONE_LIES, 0)
        self.assertEqual(report[:4], (False, 1, {}, []))
        self.assertEqual(len(report[4]), 1)
        report = self.check(*TWO_LIE, 0)
        self.assertEqual(report[:4], (False, 2, {}, []))
        report = self.check(*TWO_LIE, 1)
        self.assertEqual(report[:4], (False, 2, {}, []))
        self.assertGreater(len(report[4]), 1)
        self.assertEqual(self.check(*TWO_LIE, 2)[:2], (True, 2))

    def test_the_least_number_whatever_most_is(self):
        for most in range(4):
            self.assertEqual([self.check(*case, most)[1] for case in (HONEST, ONE_LIES, TWO_LIE)], [0, 1, 2])

    def test_no_least_number(self):
        # The bounds of trusted clocks alone break what the notes say.
        net = simple_net(("a", (0, 1)), ("b", (0, 1)), ("c", None), links=[("a", "b", (1, 1), (1, 1))])
        notes = [("sent", 1, "a", (5, 1), "b"), ("got", 1, "b", (5, 1))]
        for most in range(4):
            report = self.check(net, notes, most, ["a", "b"])
            self.assertEqual(report[:4], (False, None, {}, []))
            self.assertEqual(self.check(net, notes, most, ("a",))[:2], (most > 0, 1))

    def test_without_suspects_and_without_notes(self):
        self.assertEqual(self.check(*HONEST, 2, ["c", "b", "a"])[:3], (True, 0, {}))
        self.assertEqual(self.check(*ONE_LIES, 3, ("a", "b", "c"))[:4], (False, None, {}, []))
        self.assertEqual(self.check(sample_net(), [], 0), (True, 0, dict.fromkeys("abcd", "honest"), [], []))
        self.assertEqual(self.check(sample_net(), [], 2, ["a"]), (True, 0, dict.fromkeys("bcd", "open"), [], []))
        self.assertEqual(self.check(Net(), [], 0), (True, 0, {}, [], []))
        self.assertEqual(self.check(Net(), [], 3, ["a"]), (True, 0, {}, [], []))

    def test_trusted_names(self):
        net, notes = ONE_LIES
        self.assertEqual(self.check(net, notes, 1, ["c"])[:3], (False, 2, {}))
        self.assertEqual(self.check(net, notes, 2, ("c",))[:3], (True, 2, {"a": "liar", "b": "liar"}))
        self.assertEqual(self.check(net, notes, 1, ["a", "b"])[:3], (True, 1, {"c": "liar"}))
        self.assertEqual(self.check(net, notes, 1, ["zz", "A", ""])[:3], self.check(net, notes, 1)[:3])
        self.assertEqual(audit(net, notes, 1), audit(net, notes, 1, trusted=()))
        self.assertEqual(audit(net, notes, 1), audit(net, notes, 1, trusted=[]))

    def test_many(self):
        rng = random.Random(69)
        fits = [0, 0]
        for _ in range(200):
            net = sample_net()
            notes = sound_notes(rng, net, rng.randint(0, 7))
            fits[self.check(net, notes, rng.randint(0, 3), rng.choice(TRUSTED))[0]] += 1
        self.assertGreater(min(fits), 15)

    def test_notes_with_a_fault(self):
        net = sample_net()
        for notes, (place, reason) in FAULTY:
            self.assertEqual(plain_fault(net, notes), (place, reason))
            for trusted in ([], ["a", "x"]):
                error = caught(self, BadNote, audit, net, notes, 1, trusted=trusted)
                self.assertEqual((error.place, error.reason), (place, reason))

    def test_the_caller_may_change_what_is_returned(self):
        for case in (HONEST, TWO_LIE):
            report = audit(*case, 1)
            before = laid_open(report)
            for box in boxes(report):
                box.clear()
            self.assertEqual(laid_open(audit(*case, 1)), before)


class JudgeTest(unittest.TestCase):
    def check(self, net, notes, most, values, trusted=()):
        judge = lambda value: is_audit(net, notes, most, value, trusted=trusted)
        wanted = plain_report(net, notes, most, trusted)
        return check_judge(self, judge, lambda value: plain_audit(net, notes, most, value, trusted, wanted), values)

    def test_one_thing_wrong(self):
        net = simple_net(("a", (0, 1)), ("b", None), links=[("a", "b", (0, 1), None)])
        fitting = [("mark", "a", (1, 1)), ("mark", "b", (3, 1))]
        for case in [(net, fitting, 0), (net, fitting, 1), (net, [], 1), (Net(), [], 0), HONEST + (1,), ONE_LIES + (1,)]:
            report = audit(*case)
            counts = self.check(*case, [report] + list(spoiled(report)) + ODD_VALUES)
            self.assertGreater(counts[True], 0)
            self.assertGreater(counts[False], 50)
        for case in [ONE_LIES + (0,), TWO_LIE + (1,)]:
            report = audit(*case)
            counts = self.check(*case, [report] + list(spoiled(report)) + ODD_VALUES)
            self.assertGreater(counts[True], 0)
            self.assertGreater(counts[False], 50)

    def test_flags_and_numbers(self):
        fits, least, told, spans, rings = audit(*HONEST, 1)
        self.assertEqual((fits, least), (True, 0))
        values = [(flag, number, told, spans, rings) for flag in (True, False, 1, 0, None, "True", BIG)
                  for number in (0, 1, False, True, None, -1, (0, 1), BIG, "0")]
        self.assertEqual(self.check(*HONEST, 1, values), {True: 1, False: len(values) - 1})
        fits, least, told, spans, rings = audit(*ONE_LIES, 0)
        self.assertEqual((fits, least), (False, 1))
        values = [(flag, number, told, spans, rings) for flag in (True, False, 1, 0, None)
                  for number in (0, 1, False, True, None, -1, (1, 1))]
        self.assertEqual(self.check(*ONE_LIES, 0, values), {True: 1, False: len(values) - 1})
        report = audit(*ONE_LIES, 3, trusted=list("abc"))
        values = [(False, number, {}, [], report[4]) for number in (None, 0, 1, 4, False, "")]
        self.assertEqual(self.check(*ONE_LIES, 3, values, trusted=list("abc")), {True: 1, False: 5})

    def test_roles(self):
        report = audit(*ONE_LIES, 1)
        told = report[2]
        changed = [dict(reversed(list(told.items()))), {"c": "liar", "a": "honest", "b": "honest"}]
        wrong = [{}, {**told, "a": "open"}, {**told, "c": "honest"}, {**told, "d": "honest"}, {**told, "": "honest"},
                 {name: told[name] for name in "ab"}, {**told, "a": True}, {**told, "a": ["honest"]}, {**told, 1: "honest"},
                 {**told, None: "honest"}, {**told, "a": "Honest"}, list(told.items()), list(told), tuple(told.items()), None]
        values = [report[:2] + (one,) + report[3:] for one in changed + wrong]
        self.assertEqual(self.check(*ONE_LIES, 1, values), {True: 2, False: len(wrong)})
        report = audit(*ONE_LIES, 0)
        values = [report[:2] + (one,) + report[3:] for one in [{}, told, [], (), None, {"a": "liar"}]]
        self.assertEqual(self.check(*ONE_LIES, 0, values), {True: 1, False: 5})

    def test_spans(self):
        case = (ONE_LIES[0], ONE_LIES[1] + [("mark", "a", (9, 1))])
        report = audit(*case, 1)
        spans = report[3]
        wrong = [tuple(spans), spans[:-1], spans + spans[-1:], spans[::-1], [list(span) for span in spans],
                 [None] + spans[1:], [(spans[0][0], None)] + spans[1:], [(None, None)] * len(spans), [[span] for span in spans],
                 [(list(spans[0][0]), spans[0][1])] + spans[1:], []]
        self.assertNotEqual(spans, spans[::-1])
        values = [report[:3] + (one,) + report[4:] for one in [spans] + wrong]
        self.assertEqual(self.check(*case, 1, values), {True: 1, False: len(wrong)})
        net = simple_net(("a", (0, 1)))
        notes = [("mark", "a", (1, 1))]
        values = [(True, 0, {"a": "honest"}, [span], []) for span in
                  [((1, 1), (1, 1)), ((True, 1), (1, 1)), ((1, True), (1, 1)), ((1, 1), (1, True)), ((2, 2), (1, 1)),
                   ((1, 1), (1, 1), (1, 1)), ((1, 1),), ((BIG, BIG), (1, 1)), (1, 1)]]
        self.assertEqual(self.check(net, notes, 0, values), {True: 1, False: 8})

    def test_rings(self):
        net, notes = TWO_LIE
        claims = plain_claims(net, notes)
        report = audit(net, notes, 1)
        rings = report[4]
        head = report[:4]
        twice = [ring + ring for ring in rings]
        turned = [ring[1:] + ring[:1] for ring in rings]
        for one in twice + turned:
            self.assertTrue(plain_ring(claims, one))
        good = [rings, rings[::-1], twice, turned, rings + rings, rings + twice + turned, rings * (64 // len(rings)),
                rings + [rings[0]] * (64 - len(rings))]
        wrong = [[], rings[:-1], rings[1:], tuple(rings), [tuple(ring) for ring in rings], rings + [[]], rings + [None],
                 rings + [rings[0]] * (65 - len(rings)), rings * 65, [ring[:-1] for ring in rings], rings + [[0]],
                 rings + [[True]], rings + [[len(claims)]], rings + [[-1]], rings + [[BIG]], None, {},
                 rings[0]]
        values = [head + (one,) for one in good + wrong]
        self.assertEqual(self.check(net, notes, 1, values), {True: len(good), False: len(wrong)})
        # Where the notes fit, no ring stands in the report.
        head = audit(*HONEST, 0)[:4]
        values = [head + (one,) for one in [[], (), [[]], None, {}, rings, 0, False]]
        self.assertEqual(self.check(*HONEST, 0, values), {True: 1, False: 7})

    def test_rings_of_indexes_that_are_booleans(self):
        net = simple_net(("a", (0, 1)))
        notes = [("mark", "a", (1, 1)), ("mark", "a", (1, 1))]
        claims = plain_claims(net, notes)
        self.assertEqual(len(claims), 6)
        net = simple_net(("a", (0, 1)), ("b", (0, 1)), links=[("a", "b", (5, 1), None)])
        notes = [("sent", 1, "a", (1, 1), "b"), ("got", 1, "b", (1, 1))]
        report = audit(net, notes, 0)
        claims = plain_claims(net, notes)
        # Ways over the claims 0 and 1 with booleans in the place of these indexes.
        ring = report[4][0]
        self.assertTrue({0, 1} & set(ring))
        values = [report[:4] + ([[bool(at) if at in (0, 1) else at for at in ring]],), report]
        self.assertEqual(self.check(net, notes, 0, values), {True: 1, False: 1})

    def test_reports_of_other_notes(self):
        rng = random.Random(691)
        net = sample_net()
        reports, lists = [], []
        for _ in range(14):
            notes = sound_notes(rng, net, rng.randint(0, 4))
            lists.append(notes)
            reports.append(audit(net, notes, 1))
        for notes in lists:
            counts = self.check(net, notes, 1, reports)
            self.assertGreater(counts[True], 0)
            self.check(net, notes, 0, reports)
            self.check(net, notes, 1, reports, trusted=["a"])

    def test_the_default(self):
        report = audit(*ONE_LIES, 1)
        self.assertIs(is_audit(*ONE_LIES, 1, report), True)
        self.assertIs(is_audit(*ONE_LIES, 1, report, trusted=()), True)
        self.assertIs(is_audit(*ONE_LIES, 1, report, trusted=("c",)), False)
        self.assertIs(is_audit(*ONE_LIES, 2, report), False)


class EntriesTest(unittest.TestCase):
    KEYS = {"a": 10, "b": 20, "c": 30, "x": 40}

    def test_the_report_of_the_notes_in_entries(self):
        for (net, notes) in (HONEST, ONE_LIES, TWO_LIE):
            entries = seal_notes(self.KEYS, notes)
            for most in (0, 1):
                for trusted in ((), ["a"]):
                    found = unchanged(self, lambda *parts: audit_entries(*parts, most, trusted=trusted), net, self.KEYS, entries)
                    self.assertEqual(found, audit(net, notes, most, trusted=trusted))
            self.assertEqual(audit_entries(net, self.KEYS, entries, 1), audit(net, notes, 1))
        self.assertEqual(audit_entries(sample_net(), {}, [], 0), audit(sample_net(), [], 0))

    def test_each_error_in_its_order(self):
        net = HONEST[0]
        make = lambda sender, counter, note: sealed_entry(self.KEYS[sender], sender, counter, cells_of(note))
        good = make("a", 1, ("mark", "a", (1, 1)))
        fault = make("x", 1, ("mark", "x", (1, 1)))
        other = make("a", 2, ("mark", "b", (1, 1)))
        late = make("b", 1, ("mark", "b", (1, 1)))
        self.assertEqual(audit_entries(net, self.KEYS, [good, late], 0)[0], True)
        error = caught(self, BadNote, audit_entries, net, self.KEYS, [good, fault], 0)
        self.assertEqual((error.place, error.reason), (2, "clock"))
        for entries, place, reason in [([fault, other], 2, "cells"), ([fault, good, other, late], 3, "cells"),
                                       ([fault, other, late, late], 4, "replay"), ([fault, other, late[:3] + (0,)], 3, "seal"),
                                       ([fault, other, ("z", 1, (), 0)], 3, "sender"), ([("z", 1, (), 0), fault], 1, "sender")]:
            error = caught(self, RefusedEntry, audit_entries, net, self.KEYS, entries, 0)
            self.assertEqual((error.place, error.reason), (place, reason))

    def test_notes_with_each_fault(self):
        keys = dict.fromkeys(list("abcdxy"), 77)
        net = sample_net()
        for notes, (place, reason) in FAULTY:
            error = caught(self, BadNote, audit_entries, net, keys, seal_notes(keys, notes), 1)
            self.assertEqual((error.place, error.reason), (place, reason))


class CondemnTest(unittest.TestCase):
    def layers(self):
        layers = Layers()
        layers.add_root("r")
        for name in ("d", "c", "b", "a"):
            layers.add_server(name)
            layers.offer(name, "r", hop=(1, 1))
        layers.silence("b")
        layers.condemn("c")
        return layers

    def test_live_silent_and_condemned_servers(self):
        layers = self.layers()
        verdicts = {"d": "liar", "c": "liar", "b": "liar", "zz": "liar", "r": "honest", "a": "open"}
        before = dict(verdicts)
        self.assertEqual(condemn_liars(layers, verdicts), ["b", "d"])
        self.assertEqual(verdicts, before)
        self.assertEqual([layers.state_of(name) for name in "abcdr"], ["live", "condemned", "condemned", "condemned", "live"])
        self.assertEqual(layers.names(), ["a", "b", "c", "d", "r"])
        self.assertEqual(condemn_liars(layers, verdicts), [])

    def test_other_roles_and_names_change_nothing(self):
        for verdicts in [{}, {"a": "open", "b": "honest", "d": "open", "r": "honest"}, {"zz": "liar", "y": "liar"},
                         {"c": "liar"}, {"c": "honest"}]:
            layers = self.layers()
            before = laid_open(layers)
            self.assertEqual(condemn_liars(layers, verdicts), [])
            self.assertEqual(laid_open(layers), before)

    def test_a_root_may_be_condemned(self):
        layers = self.layers()
        self.assertEqual(condemn_liars(layers, {"r": "liar"}), ["r"])
        self.assertEqual(layers.table(), [])
        self.assertEqual(condemn_liars(Layers(), {"r": "liar"}), [])

    def test_the_order_of_the_dict_does_not_matter(self):
        for order in ("abd", "dba", "bda"):
            self.assertEqual(condemn_liars(self.layers(), dict.fromkeys(order, "liar")), ["a", "b", "d"])

    def test_no_offer_is_lost(self):
        layers = self.layers()
        condemn_liars(layers, {"a": "liar"})
        layers.withdraw("a", "r")
        layers.wake("b")
        self.assertEqual(layers.table(), [("b", (1, 1), 1, "r"), ("d", (1, 1), 1, "r"), ("r", (0, 1), 0, None)])


def lying_play(most, *shown):
    """Clocks a, b, c, d that claim to be right and show these much more than the time; each is marked once."""
    line = lambda more: [((0, 1), (more, 1), (1, 1))]
    clocks = [(name, (1, 1), (1, 1), (0, 1), line(more)) for name, more in zip("abcd", shown)]
    play = play_of(clocks, [(start, goal, (0, 1), (0, 1)) for start in "abcd"[:len(shown)] for goal in "abcd"[:len(shown)]
                            if start != goal], most)
    for tag, goal in enumerate("bcd"[:len(shown) - 1], start=1):
        play.add_send(tag, "a", goal, at=(3, 1), delay=(0, 1))
    return play


class TrueTimesTest(unittest.TestCase):
    def check(self, play, trusted=()):
        found = true_times_left(play, trusted=trusted)
        net = play.base_net()
        notes, world = plain_run(play)
        claims = plain_claims(net, notes)
        names = plain_suspects(net, trusted)
        wanted = []
        for moment in range(1, len(world)):
            left = left_of(len(world), claims, names, play.liar_limit, moment)
            t = world[moment]
            wanted.append(any([(low is None or low[0] * t[1] <= t[0] * low[1]) and (high is None or t[0] * high[1] <= high[0] * t[1])
                               for low, high in left]))
        self.assertEqual(repr(found), repr(wanted))
        if len(true_liars(play)) <= play.liar_limit and not set(true_liars(play)) & set(trusted):
            self.assertEqual(found, [True] * len(run(play)[0]))
        return found

    def test_as_many_true_liars_as_the_limit_and_more(self):
        # Of four clocks one lies, then two, then three.
        for shown, liars in [((0, 0, 0, 0), 0), ((0, 0, 0, 5), 1), ((0, 0, 7, 5), 2), ((0, 9, 7, 5), 3)]:
            for most in range(4):
                play = lying_play(most, *shown)
                self.assertEqual(len(true_liars(play)), liars)
                found = self.check(play)
                if most >= liars:
                    self.assertEqual(found, [True] * 6)
                if most == 0 and liars:
                    self.assertEqual(found, [False] * 6)
        # Two liars that say the same are believed where one liar alone is allowed.
        self.assertEqual(self.check(lying_play(1, 0, 5, 5)), [False] * 4)
        self.assertEqual(self.check(lying_play(2, 0, 5, 5)), [True] * 4)

    def test_trusted_true_liars(self):
        play = lying_play(1, 0, 0, 5)
        self.assertEqual(self.check(play), [True] * 4)
        self.assertEqual(self.check(play, ["a", "b"]), [True] * 4)
        self.assertEqual(self.check(play, ("c",)), [True, True, False, False])
        self.assertEqual(self.check(play, ["a", "b", "c"]), [False] * 4)
        self.assertEqual(self.check(play, ["zz"]), [True] * 4)
        self.assertEqual(true_times_left(play), true_times_left(play, trusted=()))

    def test_a_play_without_notes(self):
        self.assertEqual(self.check(lying_play(0, 0)), [])
        self.assertEqual(true_times_left(Play(Net())), [])

    def test_many(self):
        rng = random.Random(63)
        seen = {True: 0, False: 0}
        for _ in range(60):
            play = some_play(rng, 5)
            before = laid_open(play)
            self.assertEqual(plain_liars(play), true_liars(play))
            for answer in self.check(play, rng.choice(TRUSTED)):
                seen[answer] += 1
            self.assertEqual(laid_open(play), before)
        self.assertGreater(min(seen.values()), 20)


if __name__ == "__main__":
    unittest.main()
