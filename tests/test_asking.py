"""Points 72 to 75, and the interface's asking.py."""

import random
import unittest
from fractions import Fraction

from clockverdict.asking import (best_plan, best_server, planned, promised_width, span_after, span_now, worst_stamp,
                                 worst_width)
from clockverdict.errors import BadNote, TooManyLiars, UnknownLink, UnknownName
from clockverdict.nets import Net
from clockverdict.notes import require_sound
from tests.claiming import plain_bounds, plain_span
from tests.judging import good_case, left_of
from tests.noting import FAULTY, sample_net, sound_notes
from tests.support import boxes, caught, fraction, laid_open, rat, some_rational, unchanged
from tests.test_audits import TRUSTED, plain_suspects, simple_net
from tests.test_claims import plain_claims


# Points 72 to 75, written apart from the program.

def plain_planned(notes, server, asker, stamp, reading):
    taken = {note[1] for note in notes if note[0] == "sent"}
    tag = min(set(range(1, len(notes) + 2)) - taken)
    return notes + [("sent", tag, server, stamp, asker), ("got", tag, asker, reading)]


def plain_last_span(net, notes, most, trusted):
    """The verdict span of the last moment."""
    left = left_of(len(notes) + 1, plain_claims(net, notes), plain_suspects(net, trusted), most, len(notes))
    return (left[0][0], left[-1][1]) if left else None


def plain_worst(net, notes, most, server, asker, stamps, reading, trusted):
    widths = []
    for stamp in stamps:
        span = plain_last_span(net, plain_planned(notes, server, asker, stamp, reading), most, trusted)
        if span is not None:
            widths.append(None if None in span else fraction(span[1]) - fraction(span[0]))
    if not widths:
        return ("never", None)
    return ("open", None) if None in widths else ("width", rat(max(widths)))


def plain_best(net, notes, most, asker, plans, reading, trusted):
    ranked = []
    for at, (server, stamps) in enumerate(plans):
        kind, width = plain_worst(net, notes, most, server, asker, stamps, reading, trusted)
        if kind == "width":
            ranked.append((0, fraction(width), at))
        elif kind == "open":
            ranked.append((1, Fraction(0), at))
    return min(ranked)[2] if ranked else None


def plain_now(net, notes, asker, reading):
    """The span now without liars, None if no world fits."""
    notes = notes + [("mark", asker, reading)]
    bounds = plain_bounds(len(notes) + 1, plain_claims(net, notes))
    return None if bounds is None else plain_span(bounds, len(notes))


def plain_promise(net, server, asker, now):
    width = None if None in now else fraction(now[1]) - fraction(now[0])
    e, (low, high) = net.error_of(server), net.delay_of(server, asker)
    if e is None or high is None:
        return width
    told = 2 * fraction(e) + fraction(high) - fraction(low)
    return told if width is None else min(width, told)


def plain_stamp(net, server, asker, now):
    e, (low, high) = net.error_of(server), net.delay_of(server, asker)
    if e is None or high is None:
        return None
    if now[0] is not None:
        return rat(fraction(now[0]) + fraction(e) - fraction(low))
    return rat(0) if now[1] is None else rat(fraction(now[1]) - fraction(e) - fraction(high))


def told_width(width):
    return None if width is None else rat(width)


def server_net(**errors):
    """An asker a without an error bound, and servers with links to it of 1 to 4 seconds."""
    net = Net()
    net.add_clock("a", error=errors.pop("a", None))
    for name, error in errors.items():
        net.add_clock(name, error=error)
        net.add_link(name, "a", low=(1, 1), high=(4, 1))
    return net


class PlannedTest(unittest.TestCase):
    def test_the_notes_behind_the_others(self):
        net = server_net(s=(1, 1))
        self.assertEqual(planned(net, [], "s", "a", stamp=(3, 1), reading=(5, 2)),
                         [("sent", 1, "s", (3, 1), "a"), ("got", 1, "a", (5, 2))])
        notes = [("mark", "a", (1, 1)), ("sent", 1, "s", (0, 1), "a")]
        found = unchanged(self, lambda *parts: planned(*parts, stamp=(3, 1), reading=(5, 2)), net, notes, "s", "a")
        self.assertEqual(found, notes + [("sent", 2, "s", (3, 1), "a"), ("got", 2, "a", (5, 2))])
        found.clear()
        self.assertEqual(len(notes), 2)

    def test_the_least_free_tag(self):
        net = server_net(s=(1, 1))
        sent = lambda tag: ("sent", tag, "s", (0, 1), "a")
        for tags, wanted in [([], 1), ([2], 1), ([1], 2), ([1, 2, 3], 4), ([3, 2, 1], 4), ([1, 2, 4], 3), ([9999], 1),
                             ([2, 3, 9999, 1], 4)]:
            notes = [sent(tag) for tag in tags]
            for lost in (True, False):
                more = notes + ([] if lost else [("got", tag, "a", (1, 1)) for tag in tags])
                found = planned(net, more, "s", "a", stamp=(0, 1), reading=(0, 1))
                self.assertEqual([note[1] for note in found[-2:]], [wanted, wanted])
                require_sound(net, found)

    def test_many(self):
        rng = random.Random(72)
        for _ in range(100):
            net = sample_net()
            notes = sound_notes(rng, net, rng.randint(0, 9))
            server, asker = rng.choice(net.links())
            stamp, reading = some_rational(rng), some_rational(rng)
            found = planned(net, notes, server, asker, stamp=stamp, reading=reading)
            self.assertEqual(found, plain_planned(notes, server, asker, stamp, reading))
            require_sound(net, found)


class SpansTest(unittest.TestCase):
    def test_the_span_now(self):
        net = server_net(a=(2, 1), s=(1, 1))
        self.assertEqual(span_now(net, [], 0, "a", reading=(5, 1)), ((3, 1), (7, 1)))
        self.assertEqual(span_now(net, [], 1, "a", reading=(5, 1)), (None, None))
        self.assertEqual(span_now(net, [], 1, "a", reading=(5, 1), trusted=["a"]), ((3, 1), (7, 1)))
        notes = [("mark", "a", (9, 1)), ("sent", 1, "s", (1, 1), "a"), ("got", 1, "a", (5, 1))]
        self.assertEqual(span_now(net, notes, 0, "a", reading=(5, 1)), ((3, 1), (6, 1)))
        self.assertEqual(span_now(net, notes, 0, "s", reading=(5, 1)), ((4, 1), (6, 1)))
        notes[1] = ("sent", 1, "s", (30, 1), "a")
        self.assertIsNone(span_now(net, notes, 0, "a", reading=(5, 1)))
        self.assertEqual(span_now(net, notes, 1, "a", reading=(5, 1)), (None, None))
        self.assertEqual(span_now(net, notes, 1, "a", reading=(5, 1), trusted=("a",)), ((3, 1), (7, 1)))
        self.assertIsNone(span_now(net, notes, 3, "a", reading=(5, 1), trusted=("s", "a")))

    def test_the_span_after(self):
        net = server_net(a=(2, 1), s=(1, 1))
        after = lambda stamp, most=0, **more: span_after(net, [], most, "s", "a", stamp=stamp, reading=(5, 1), **more)
        self.assertEqual(after((2, 1)), ((3, 1), (7, 1)))
        self.assertEqual(after((4, 1)), ((4, 1), (7, 1)))
        self.assertEqual(after((7, 1)), ((7, 1), (7, 1)))
        self.assertIsNone(after((8, 1)))
        self.assertEqual(after((-2, 1)), ((3, 1), (3, 1)))
        self.assertIsNone(after((-3, 1)))
        self.assertEqual(after((8, 1), 1), ((3, 1), (13, 1)))
        self.assertEqual(after((8, 1), 1, trusted=["a", "s"]), None)
        self.assertEqual(after((8, 1), 1, trusted=["s"]), ((8, 1), (13, 1)))

    def test_many(self):
        rng = random.Random(721)
        none = 0
        for _ in range(120):
            net = sample_net()
            notes = sound_notes(rng, net, rng.randint(0, 5))
            most, trusted = rng.randint(0, 2), rng.choice(TRUSTED)
            server, asker = rng.choice(net.links())
            stamp, reading = some_rational(rng), some_rational(rng)
            now = unchanged(self, lambda *parts: span_now(*parts, reading=reading, trusted=trusted), net, notes, most, asker)
            self.assertEqual(now, plain_last_span(net, notes + [("mark", asker, reading)], most, trusted))
            after = unchanged(self, lambda *parts: span_after(*parts, stamp=stamp, reading=reading, trusted=trusted),
                              net, notes, most, server, asker)
            self.assertEqual(after, plain_last_span(net, plain_planned(notes, server, asker, stamp, reading), most, trusted))
            none += after is None
        self.assertTrue(10 < none < 110)


class WorstWidthTest(unittest.TestCase):
    def check(self, net, notes, most, server, asker, stamps, reading, trusted=()):
        found = unchanged(self, lambda *parts: worst_width(*parts[:5], stamps=parts[5], reading=reading, trusted=trusted),
                          net, notes, most, server, asker, stamps)
        self.assertEqual(found, plain_worst(net, notes, most, server, asker, stamps, reading, trusted))
        self.assertIs(type(found), tuple)
        return found

    def test_never_open_and_width(self):
        net = server_net(a=(2, 1), s=(1, 1))
        for stamps, wanted in [([], ("never", None)), ([(90, 1)], ("never", None)), ([(90, 1), (-90, 1)], ("never", None)),
                               ([(7, 1)], ("width", (0, 1))), ([(7, 1), (90, 1), (4, 1)], ("width", (3, 1))),
                               ([(4, 1), (7, 1)], ("width", (3, 1))), ([(2, 1)], ("width", (4, 1)))]:
            self.assertEqual(self.check(net, [], 0, "s", "a", stamps, (5, 1)), wanted)
        # With one liar among the two, the span after is open: the other one alone sets no bound on one side or both.
        net = server_net(s=(1, 1))
        self.assertEqual(self.check(net, [], 1, "s", "a", [(7, 1)], (5, 1)), ("open", None))
        self.assertEqual(self.check(net, [], 1, "s", "a", [], (5, 1)), ("never", None))
        self.assertEqual(self.check(net, [], 1, "s", "a", [(7, 1)], (5, 1), ["s"]), ("width", (5, 1)))
        self.assertEqual(self.check(net, [], 3, "s", "a", [(7, 1)], (5, 1), ("s", "a")), ("width", (5, 1)))

    def test_open_beside_widths(self):
        net = Net()
        net.add_clock("a")
        net.add_clock("s", error=(1, 1))
        net.add_clock("u")
        net.add_link("s", "a", low=(0, 1))
        net.add_link("u", "s", low=(0, 1), high=(1, 1))
        # Without a longest delay the arrival is open above.
        self.assertEqual(self.check(net, [], 0, "s", "a", [(7, 1), (8, 1)], (5, 1)), ("open", None))
        self.assertEqual(self.check(net, [], 0, "u", "s", [(7, 1), (8, 1)], (5, 1)), ("width", (2, 1)))
        # One stamp can come and is open, another one cannot.
        notes = [("mark", "s", (0, 1)), ("sent", 1, "s", (9, 1), "a")]
        self.assertEqual(self.check(net, notes, 0, "s", "a", [(9, 1), (20, 1)], (5, 1)), ("open", None))

    def test_a_width_behind_an_open_one(self):
        # Where s is honest, which only the stamp 3 allows, the arrival is open; where s lies, t bounds it.
        net = Net()
        net.add_clock("a")
        net.add_clock("s", slow=(2, 1), fast=(2, 1), error=(0, 1))
        net.add_clock("t", error=(1, 1))
        net.add_link("s", "a")
        net.add_link("t", "a", high=(1, 1))
        notes = [("mark", "s", (3, 1)), ("sent", 1, "t", (10, 1), "a"), ("got", 1, "a", (20, 1))]
        check = lambda *stamps: self.check(net, notes, 1, "s", "a", list(stamps), (21, 1), ["a"])
        self.assertEqual(check((3, 1)), ("open", None))
        self.assertEqual(check((4, 1)), ("width", (3, 1)))
        self.assertEqual(check((3, 1), (4, 1)), ("open", None))
        self.assertEqual(check((4, 1), (3, 1)), ("open", None))

    def test_many(self):
        rng = random.Random(73)
        kinds = {"never": 0, "open": 0, "width": 0}
        for _ in range(60):
            net = sample_net()
            notes = sound_notes(rng, net, rng.randint(0, 4))
            server, asker = rng.choice(net.links())
            stamps = [some_rational(rng) for _ in range(rng.randint(0, 3))]
            found = self.check(net, notes, rng.randint(0, 2), server, asker, stamps, some_rational(rng), rng.choice(TRUSTED))
            kinds[found[0]] += 1
        self.assertGreater(min(kinds.values()), 2)


class BestPlanTest(unittest.TestCase):
    def check(self, net, notes, most, asker, plans, reading, trusted=()):
        found = unchanged(self, lambda *parts: best_plan(*parts, reading=reading, trusted=trusted), net, notes, most, asker, plans)
        self.assertEqual(found, plain_best(net, notes, most, asker, plans, reading, trusted))
        return found

    def test_the_least_worst_width(self):
        net = server_net(a=(20, 1), s=(1, 1), t=(2, 1), u=(1, 2), v=None)
        plans = [("s", [(3, 1)]), ("t", [(3, 1)]), ("u", [(3, 1)])]
        self.assertEqual(self.check(net, [], 0, "a", plans, (5, 1)), 2)
        self.assertEqual(self.check(net, [], 0, "a", plans[:2], (5, 1)), 0)
        self.assertEqual(self.check(net, [], 0, "a", plans[1:2] + plans[:1], (5, 1)), 1)
        self.assertEqual(self.check(net, [], 0, "a", [("v", [(3, 1)]), ("t", [(3, 1)])], (5, 1)), 1)
        # A stamp that is worse makes the plan worse; one that cannot come does not.
        self.assertEqual(self.check(net, [], 0, "a", [("s", [(3, 1)]), ("t", [(23, 1), (-900, 1)])], (5, 1)), 1)
        self.assertEqual(self.check(net, [], 0, "a", [("s", [(3, 1)]), ("t", [(23, 1), (3, 1)])], (5, 1)), 0)

    def test_equal_plans(self):
        net = server_net(a=(20, 1), s=(1, 1), t=(1, 1))
        plan = lambda name: (name, [(3, 1)])
        self.assertEqual(self.check(net, [], 0, "a", [plan("t"), plan("s")], (5, 1)), 0)
        self.assertEqual(self.check(net, [], 0, "a", [plan("s"), plan("s"), plan("t")], (5, 1)), 0)
        self.assertEqual(self.check(net, [], 0, "a", [("s", []), plan("t"), plan("s")], (5, 1)), 1)

    def test_open_plans_and_plans_that_never_come(self):
        net = server_net(s=(1, 1), t=None, u=None)
        net.add_clock("v", error=(1, 1))
        net.add_link("v", "a")
        never = ("s", [])
        for plans, wanted in [([], None), ([never], None), ([never, never], None), ([("t", [(0, 1)])], 0),
                              ([never, ("v", [(0, 1)]), ("t", [(0, 1)])], 1), ([("t", [(0, 1)]), ("s", [(3, 1)])], 1),
                              ([("s", [(3, 1)]), ("t", [(0, 1)])], 0), ([("v", [(0, 1)]), never, ("u", [(0, 1)])], 0)]:
            self.assertEqual(self.check(net, [], 0, "a", plans, (5, 1)), wanted)
        # Where the notes have no excuse, no stamp can come.
        notes = [("sent", 1, "s", (0, 1), "a"), ("got", 1, "a", (0, 1)), ("sent", 2, "s", (90, 1), "a"), ("got", 2, "a", (1, 1))]
        self.assertIsNone(self.check(net, notes, 0, "a", [("s", [(0, 1)]), ("t", [(0, 1)])], (5, 1)))

    def test_many(self):
        rng = random.Random(731)
        seen = set()
        for _ in range(50):
            net = sample_net()
            notes = sound_notes(rng, net, rng.randint(0, 3))
            asker = rng.choice(["a", "a", "b"])
            servers = [start for start, goal in net.links() if goal == asker]
            plans = [(rng.choice(servers), [some_rational(rng) for _ in range(rng.randint(0, 2))])
                     for _ in range(rng.randint(0, 4))]
            seen.add(self.check(net, notes, rng.randint(0, 2), asker, plans, some_rational(rng), rng.choice(TRUSTED)))
        self.assertTrue({None, 0, 1} <= seen)


class PromiseTest(unittest.TestCase):
    def check(self, net, notes, server, asker, reading):
        call = lambda *parts: (promised_width(*parts, reading=reading), worst_stamp(*parts, reading=reading))
        found = unchanged(self, call, net, notes, server, asker)
        now = plain_now(net, notes, asker, reading)
        wanted = (told_width(plain_promise(net, server, asker, now)), plain_stamp(net, server, asker, now))
        self.assertEqual(found, wanted)
        return found

    def test_the_document(self):
        net = server_net(s=(1, 1))
        self.assertEqual(self.check(net, [], "s", "a", (10, 1)), ((5, 1), (0, 1)))

    def test_e_and_high_none(self):
        for asker_error, width in [(None, None), ((3, 1), (6, 1))]:
            net = server_net(a=asker_error, s=None)
            self.assertEqual(self.check(net, [], "s", "a", (10, 1)), (width, None))
            net = Net()
            net.add_clock("a", error=asker_error)
            net.add_clock("s", error=(1, 1))
            net.add_clock("t")
            net.add_link("s", "a", low=(1, 1))
            net.add_link("t", "a", low=(1, 1))
            self.assertEqual(self.check(net, [], "s", "a", (10, 1)), (width, None))
            self.assertEqual(self.check(net, [], "t", "a", (10, 1)), (width, None))

    def test_w_and_the_servers_part(self):
        # 2 * e + high - low is 5.
        for error, width in [((1, 1), (2, 1)), ((5, 2), (5, 1)), ((3, 1), (5, 1)), ((0, 1), (0, 1))]:
            net = server_net(a=error, s=(1, 1))
            found = self.check(net, [], "s", "a", (10, 1))
            self.assertEqual(found, (width, rat(10 - fraction(error))))

    def test_the_span_now_open_on_one_side_or_both(self):
        net = Net()
        net.add_clock("a")
        net.add_clock("b")
        net.add_clock("s", error=(1, 2))
        net.add_clock("t", error=(1, 2))
        net.add_link("s", "a", low=(1, 1), high=(2, 1))
        net.add_link("t", "a", low=(1, 1))
        net.add_link("a", "t", low=(1, 1))
        above = [("sent", 1, "t", (5, 1), "a"), ("got", 1, "a", (8, 1))]
        self.assertEqual(span_now(net, above, 0, "a", reading=(10, 1)), ((15, 2), None))
        self.assertEqual(self.check(net, above, "s", "a", (10, 1)), ((2, 1), (7, 1)))
        below = [("sent", 1, "a", (8, 1), "t"), ("got", 1, "t", (20, 1))]
        self.assertEqual(span_now(net, below, 0, "a", reading=(10, 1)), (None, (43, 2)))
        self.assertEqual(self.check(net, below, "s", "a", (10, 1)), ((2, 1), (19, 1)))
        self.assertEqual(self.check(net, [], "s", "a", (10, 1)), ((2, 1), (0, 1)))
        both = above + [("sent", 2, "a", (9, 1), "t"), ("got", 2, "t", (20, 1))]
        self.assertEqual(span_now(net, both, 0, "a", reading=(10, 1)), ((15, 2), (41, 2)))
        self.assertEqual(self.check(net, both, "s", "a", (10, 1)), ((2, 1), (7, 1)))

    def test_each_stamp_that_can_come_keeps_the_promise(self):
        rng = random.Random(74)
        used = exact = 0
        for _ in range(120):
            net = sample_net()
            notes = sound_notes(rng, net, rng.randint(0, 4))
            server, asker = rng.choice(net.links())
            reading = some_rational(rng)
            if plain_now(net, notes, asker, reading) is None:
                continue
            width, worst = self.check(net, notes, server, asker, reading)
            for stamp in [some_rational(rng) for _ in range(4)] + ([] if worst is None else [worst]):
                span = span_after(net, notes, 0, server, asker, stamp=stamp, reading=reading)
                if span is not None and width is not None:
                    self.assertLessEqual(fraction(span[1]) - fraction(span[0]), fraction(width))
                    used += 1
            if worst is not None and server not in [note[1 if note[0] == "mark" else 2] for note in notes]:
                span = span_after(net, notes, 0, server, asker, stamp=worst, reading=reading)
                self.assertEqual(rat(fraction(span[1]) - fraction(span[0])), width)
                exact += 1
        self.assertGreater(used, 40)
        self.assertGreater(exact, 3)

    def test_the_worst_stamp_has_just_the_promised_width(self):
        rng = random.Random(75)
        for _ in range(60):
            net = Net()
            net.add_clock("a", slow=(1, 2), fast=(2, 1), error=rng.choice([None, some_rational(rng, 0, 5)]))
            net.add_clock("t", error=rng.choice([None, some_rational(rng, 0, 5)]))
            net.add_clock("s", slow=(1, 2), fast=(2, 1), error=some_rational(rng, 0, 5))
            low = some_rational(rng, 0, 3)
            net.add_link("s", "a", low=low, high=rat(fraction(low) + fraction(some_rational(rng, 0, 3))))
            net.add_link("t", "a", low=(1, 2), high=rng.choice([None, (9, 1)]))
            net.add_link("a", "t")
            notes = rng.choice([[], [("sent", 1, "t", (5, 1), "a"), ("got", 1, "a", (8, 1))],
                                [("sent", 1, "a", (5, 1), "t"), ("got", 1, "t", (8, 1))]])
            reading = some_rational(rng, 0, 20)
            if plain_now(net, notes, "a", reading) is None:
                continue
            width, worst = self.check(net, notes, "s", "a", reading)
            span = span_after(net, notes, 0, "s", "a", stamp=worst, reading=reading)
            self.assertEqual(rat(fraction(span[1]) - fraction(span[0])), width)

    def test_too_many_liars(self):
        net = server_net(a=(0, 1), s=(0, 1), t=None)
        net.add_clock("u", error=(1, 1))
        net.add_link("u", "a")
        for notes, reading in [([("sent", 1, "s", (5, 1), "a"), ("got", 1, "a", (50, 1))], (60, 1)),
                               ([("sent", 1, "s", (5, 1), "a"), ("got", 1, "a", (7, 1)), ("sent", 2, "t", (1, 1), "a"),
                                 ("got", 2, "a", (4, 1)), ("got", 1, "a", (6, 1)), ("got", 1, "a", (1, 1))], (3, 1))]:
            claims = plain_claims(net, notes + [("mark", "a", reading)])
            for server in ("s", "t", "u"):
                for call in (promised_width, worst_stamp):
                    error = caught(self, TooManyLiars, call, net, notes, server, "a", reading=reading)
                    self.assertTrue(good_case(claims, [], 0, error.rings, len(notes) + 2))
                    self.assertTrue(good_case(claims, ["a", "zz"], 0, error.rings, len(notes) + 2))
                    self.assertIs(error.rings, error.rings)
                    self.assertEqual(len({id(box) for box in boxes(error.rings)}), len(boxes(error.rings)))
            error = caught(self, TooManyLiars, best_server, net, notes, "a", reading=reading)
            self.assertTrue(good_case(claims, [], 0, error.rings, len(notes) + 2))

    def test_a_mark_alone_may_leave_no_world(self):
        net = server_net(a=(0, 1), s=(0, 1))
        net.add_clock("c", slow=(2, 1), fast=(2, 1), error=(0, 1))
        net.add_link("c", "s")
        notes = [("mark", "c", (1, 1))]
        caught(self, TooManyLiars, best_server, net, notes, "c", reading=(2, 1))
        self.assertIsNone(best_server(net, notes, "c", reading=(1, 1)))


class BestServerTest(unittest.TestCase):
    def check(self, net, notes, asker, reading):
        found = unchanged(self, lambda *parts: best_server(*parts, reading=reading), net, notes, asker)
        now = plain_now(net, notes, asker, reading)
        ranked = []
        for start, goal in net.links():
            if goal == asker:
                width = plain_promise(net, start, asker, now)
                ranked.append((width is None, width or 0, start))
        self.assertEqual(found, min(ranked)[2] if ranked else None)
        return found

    def test_the_least_promise(self):
        self.assertEqual(self.check(server_net(s=(2, 1), t=(1, 1), u=(3, 1)), [], "a", (5, 1)), "t")
        self.assertEqual(self.check(server_net(s=(2, 1), t=(2, 1), r=None), [], "a", (5, 1)), "s")
        self.assertEqual(self.check(server_net(u=(2, 1), t=(2, 1)), [], "a", (5, 1)), "t")
        self.assertEqual(self.check(server_net(b=None, s=(9, 1)), [], "a", (5, 1)), "s")
        self.assertEqual(self.check(server_net(t=None, s=None), [], "a", (5, 1)), "s")
        # With a narrow span now all promises are alike.
        self.assertEqual(self.check(server_net(a=(1, 2), t=(1, 1), s=None, u=(0, 1)), [], "a", (5, 1)), "s")

    def test_no_link_to_the_asker(self):
        net = server_net(s=(1, 1))
        net.add_clock("b", error=(0, 1))
        self.assertIsNone(self.check(net, [], "s", (5, 1)))
        self.assertIsNone(self.check(net, [], "b", (5, 1)))
        caught(self, TooManyLiars, best_server, net, [("mark", "b", (0, 1)), ("sent", 1, "s", (9, 1), "a"),
                                                      ("got", 1, "a", (1, 1)), ("sent", 2, "s", (90, 1), "a"),
                                                      ("got", 2, "a", (1, 1))], "b", reading=(5, 1))

    def test_many(self):
        rng = random.Random(741)
        for _ in range(60):
            net = sample_net()
            notes = sound_notes(rng, net, rng.randint(0, 3))
            asker, reading = rng.choice(["a", "b", "c", "d"]), some_rational(rng)
            if plain_now(net, notes, asker, reading) is not None:
                self.check(net, notes, asker, reading)


class WrongArgumentsTest(unittest.TestCase):
    """Each error in its order, for each function."""

    def calls(self, server, asker):
        """All functions, each as a call that takes a net and notes."""
        more = {"reading": (1, 1)}
        return [
            lambda net, notes: planned(net, notes, server, asker, stamp=(0, 1), **more),
            lambda net, notes: span_after(net, notes, 1, server, asker, stamp=(0, 1), **more),
            lambda net, notes: worst_width(net, notes, 1, server, asker, stamps=[(0, 1)], **more),
            lambda net, notes: worst_width(net, notes, 1, server, asker, stamps=[], **more),
            lambda net, notes: promised_width(net, notes, server, asker, **more),
            lambda net, notes: worst_stamp(net, notes, server, asker, **more),
        ]

    def asker_calls(self, asker):
        more = {"reading": (1, 1)}
        return [
            lambda net, notes: span_now(net, notes, 1, asker, **more),
            lambda net, notes: best_server(net, notes, asker, **more),
            lambda net, notes: best_plan(net, notes, 1, asker, [], **more),
            lambda net, notes: best_plan(net, notes, 1, asker, [("zz", [])], **more),
            lambda net, notes: best_plan(net, notes, 1, asker, [("a", [(0, 1)])], **more),
        ]

    def test_notes_that_are_not_sound(self):
        for notes, (place, reason) in FAULTY:
            for server, asker in [("a", "b"), ("zz", "b"), ("a", "zz"), ("a", "d"), ("a", "a")]:
                for call in self.calls(server, asker) + self.asker_calls(asker):
                    error = caught(self, BadNote, call, sample_net(), notes)
                    self.assertEqual((error.place, error.reason), (place, reason))

    def test_clocks_that_there_are_not(self):
        clash = [("mark", "d", (0, 1)), ("mark", "d", (0, 1)), ("sent", 1, "a", (0, 1), "b"), ("got", 1, "b", (90, 1))]
        for notes in ([], clash):
            for server, asker, wanted in [("zz", "b", "zz"), ("a", "zz", "zz"), ("zz", "y", "zz"), ("zz", "zz", "zz"),
                                          ("", "b", ""), ("a", "A", "A"), ("no name", "", "no name")]:
                for call in self.calls(server, asker):
                    self.assertEqual(caught(self, UnknownName, call, sample_net(), notes).name, wanted)
            for asker in ("zz", "", "A"):
                for call in self.asker_calls(asker):
                    self.assertEqual(caught(self, UnknownName, call, sample_net(), notes).name, asker)

    def test_links_that_there_are_not(self):
        for server, asker in [("a", "d"), ("d", "a"), ("b", "c"), ("c", "b"), ("a", "a"), ("d", "d")]:
            for call in self.calls(server, asker):
                error = caught(self, UnknownLink, call, sample_net(), [("sent", 1, "a", (0, 1), "b"), ("got", 1, "b", (90, 1))])
                self.assertEqual((error.start, error.goal), (server, asker))

    def test_the_plans_one_after_the_other(self):
        net = sample_net()
        for plans, kind, wanted in [
            ([("b", []), ("zz", [])], UnknownName, {"name": "zz"}), ([("zz", [(0, 1)]), ("d", [])], UnknownName, {"name": "zz"}),
            ([("d", []), ("zz", [])], UnknownLink, {"start": "d", "goal": "a"}),
            ([("b", [(0, 1)]), ("c", []), ("a", [(0, 1)])], UnknownLink, {"start": "a", "goal": "a"}),
            ([("b", [(0, 1)]), ("", [(0, 1)])], UnknownName, {"name": ""}),
        ]:
            error = caught(self, kind, best_plan, net, [], 1, "a", plans, reading=(1, 1))
            self.assertEqual(vars(error), wanted)
            error = caught(self, UnknownName, best_plan, net, [], 1, "y", plans, reading=(1, 1))
            self.assertEqual(error.name, "y")

    def test_defaults(self):
        net = server_net(a=(1, 1), s=(1, 1))
        for call in [lambda **more: span_now(net, [], 1, "a", reading=(1, 1), **more),
                     lambda **more: span_after(net, [], 1, "s", "a", stamp=(0, 1), reading=(1, 1), **more),
                     lambda **more: worst_width(net, [], 1, "s", "a", stamps=[(0, 1)], reading=(1, 1), **more),
                     lambda **more: best_plan(net, [], 1, "a", [("s", [(0, 1)])], reading=(1, 1), **more)]:
            self.assertEqual(laid_open(call()), laid_open(call(trusted=())))
            self.assertEqual(laid_open(call()), laid_open(call(trusted=["zz"])))


if __name__ == "__main__":
    unittest.main()
