"""Points 61 to 64, and the interface's machine.py."""

import random
import unittest
from fractions import Fraction

from clockverdict.claims import claims_of
from clockverdict.courses import is_course, shown_at, tidy
from clockverdict.errors import BadBound, BadRate, BeforeStart, EmptySpan, TurnsBack, UnknownName
from clockverdict.machine import final_course, keeps_promise, pilot, run, true_liars
from clockverdict.nets import Net
from clockverdict.notes import require_sound
from clockverdict.plays import Play
from clockverdict.verdicts import left_by, verdict_span
from tests.claiming import holds
from tests.judging import left_of
from tests.noting import sample_net
from tests.support import caught, fraction, rat, some_rational, unchanged
from tests.test_claims import plain_claims
from tests.test_plays import told
from tests.test_steering import Plain

LINE = [((0, 1), (0, 1), (1, 1))]


def play_of(clocks, links=(), most=0):
    """A play with clocks (name, slow, fast, error, truth) and links (start, goal, low, high)."""
    net = Net()
    for name, slow, fast, error, _ in clocks:
        net.add_clock(name, slow=slow, fast=fast, error=error)
    for start, goal, low, high in links:
        net.add_link(start, goal, low=low, high=high)
    play = Play(net, most=most)
    for name, _, _, _, truth in clocks:
        if truth is not None:
            play.set_truth(name, truth)
    return play


def pair_play():
    """The play of the document's example: a runs at 1 from 0 on, b shows 5 more."""
    play = play_of([("a", (1, 1), (1, 1), (0, 1), LINE), ("b", (1, 1), (1, 1), None, [((0, 1), (5, 1), (1, 1))])],
                   [("a", "b", (0, 1), (2, 1)), ("b", "a", (0, 1), None)])
    play.add_send(1, "a", "b", at=(3, 1), delay=(1, 1))
    return play


def some_play(rng, deeds=10):
    play = Play(sample_net(), most=rng.randint(0, 3))
    for name in ("a", "b", "c", "d"):
        start = rng.choice([(0, 1), (-1, 1), (1, 2)])
        pieces = [(start, some_rational(rng, -3, 3, 2), some_rational(rng, 1, 3, 2))]
        if rng.random() < 0.3:
            pieces.append(((3, 1), some_rational(rng, 0, 6, 2), some_rational(rng, 1, 3, 2)))
        if name != "d" or rng.random() < 0.7:
            play.set_truth(name, pieces)
    names = [name for name, _ in play.truths()]
    links = play.base_net().links()
    tags = []
    for _ in range(rng.randint(0, deeds)):
        kind = rng.choice(["send", "send", "again", "mark", "mark", "step", "slew"])
        at = rat(rng.randint(1, 6), rng.choice([1, 1, 1, 2]))
        if kind == "send":
            start, goal = rng.choice(links)
            low, high = play.base_net().delay_of(start, goal)
            tag = len(tags) + 1
            play.add_send(tag, start, goal, at=at, delay=rng.choice([low, low, (2, 1) if high is None else high, None]))
            tags.append((tag, low, high))
        elif kind == "again" and tags:
            tag, low, high = rng.choice(tags)
            play.add_again(tag, delay=rng.choice([low, (3, 1) if high is None else high]))
        elif kind == "mark":
            play.add_mark(rng.choice(names), at=at)
        elif kind == "step":
            play.add_step(rng.choice(names), at=at, jump=some_rational(rng, -2, 2, 2))
        elif kind == "slew":
            play.add_slew(rng.choice(names), at=at, rate=some_rational(rng, 1, 4, 2))
    return play


# The points 61 to 64, written apart from the program.

def plain_shown(play, name, t):
    """What the clock shows at the Fraction t after all its steps and slews."""
    course = play.truth_of(name)

    def value(s):
        piece = [one for one in course if fraction(one[0]) <= s][-1]
        return fraction(piece[1]) + fraction(piece[2]) * (s - fraction(piece[0]))

    changes = [deed for deed in play.deeds() if deed[0] in ("step", "slew") and deed[1] == name]
    for kind, _, at, change in sorted(changes, key=lambda deed: fraction(deed[2])):
        value = changed(value, kind, fraction(at), fraction(change))
    return value(t)


def changed(value, kind, at, change):
    if kind == "step":
        return lambda s: value(s) + (change if s >= at else 0)
    return lambda s: value(s) if s < at else value(at) + change * (s - at)


def plain_run(play):
    events = []
    for place, deed in enumerate(play.deeds()):
        if deed[0] == "send":
            _, tag, start, goal, at, delay = deed
            events.append((fraction(at), place, 0, ("sent", tag, start), (goal,)))
            if delay is not None:
                events.append((fraction(at) + fraction(delay), place, 1, ("got", tag, goal), ()))
        if deed[0] == "again":
            send = [one for one in play.deeds() if one[0] == "send" and one[1] == deed[1]][0]
            events.append((fraction(send[4]) + fraction(deed[2]), place, 1, ("got", deed[1], send[3]), ()))
        if deed[0] == "mark":
            events.append((fraction(deed[2]), place, 0, ("mark", deed[1]), ()))
    events.sort(key=lambda event: event[:3])
    notes = [head + (rat(plain_shown(play, head[-1], t)),) + tail for t, _, _, head, tail in events]
    return (notes, [(0, 1)] + [rat(event[0]) for event in events])


def plain_liars(play):
    notes, world = plain_run(play)
    return sorted({claim[3] for claim in plain_claims(play.base_net(), notes) if not holds(claim, world)})


def plain_pilot(play, name, error, slew, step_over):
    """The rows of the pilot; None as the last row if a reading turns back."""
    net = play.base_net()
    slow, fast = [fraction(rate) for rate in net.rates_of(name)]
    drift = max(abs(1 - 1 / fast), abs(1 - 1 / slow))
    suspects = [other for other in net.names() if other != name]
    notes, _ = plain_run(play)
    steering, rows, last = None, [], None
    for at, note in enumerate(notes):
        if note[0] != "mark" or note[1] != name:
            continue
        reading = fraction(note[2])
        if steering is None:
            steering = Plain(reading, reading, fraction(error), fraction(slew), drift,
                             None if step_over is None else fraction(step_over))
        elif reading < last:
            return rows + [None]
        claims = plain_claims(net, notes[:at + 1])
        left = left_of(at + 2, claims, suspects, play.liar_limit, at + 1)
        span = (left[0][0], left[-1][1]) if left else None
        steering.steer(reading, None if span is None else tuple([None if end is None else fraction(end) for end in span]))
        rows.append((at + 1, note[2], rat(steering.display(reading)), rat(steering.error_at(reading))))
        last = reading
    return rows


class FinalCourseTest(unittest.TestCase):
    def test_by_hand(self):
        play = pair_play()
        self.assertEqual(unchanged(self, lambda name: final_course(play, name), "a"), LINE)
        play.add_slew("a", at=(4, 1), rate=(2, 1))
        play.add_step("a", at=(2, 1), jump=(1, 1))
        self.assertEqual(final_course(play, "a"), [((0, 1), (0, 1), (1, 1)), ((2, 1), (3, 1), (1, 1)),
                                                   ((4, 1), (5, 1), (2, 1))])
        self.assertEqual(final_course(play, "b"), [((0, 1), (5, 1), (1, 1))])
        self.assertEqual(play.truth_of("a"), LINE)

    def test_deeds_of_equal_times_in_their_order(self):
        course = [((0, 1), (0, 1), (1, 1)), ((3, 1), (9, 1), (2, 1))]
        for first, second, wanted in [
            (("step", (1, 1)), ("slew", (3, 1)), [((0, 1), (0, 1), (1, 1)), ((2, 1), (3, 1), (3, 1))]),
            (("slew", (3, 1)), ("step", (1, 1)), [((0, 1), (0, 1), (1, 1)), ((2, 1), (3, 1), (3, 1))]),
            (("slew", (3, 1)), ("slew", (5, 1)), [((0, 1), (0, 1), (1, 1)), ((2, 1), (2, 1), (5, 1))]),
            (("slew", (5, 1)), ("slew", (3, 1)), [((0, 1), (0, 1), (1, 1)), ((2, 1), (2, 1), (3, 1))]),
            (("step", (5, 1)), ("step", (-5, 1)), course),
        ]:
            play = play_of([("a", (1, 1), (1, 1), None, course)])
            for kind, change in (first, second):
                if kind == "step":
                    play.add_step("a", at=(2, 1), jump=change)
                else:
                    play.add_slew("a", at=(2, 1), rate=change)
            self.assertEqual(final_course(play, "a"), wanted)

    def test_a_later_time_counts_after_an_earlier_one_whatever_was_added_first(self):
        for order in (1, -1):
            play = play_of([("a", (1, 1), (1, 1), None, LINE)])
            for at, rate in [(2, 3), (5, 1)][::order]:
                play.add_slew("a", at=(at, 1), rate=(rate, 1))
            self.assertEqual(final_course(play, "a"), [((0, 1), (0, 1), (1, 1)), ((2, 1), (2, 1), (3, 1)),
                                                       ((5, 1), (11, 1), (1, 1))])

    def test_it_is_tidy(self):
        loose = [((0, 1), (0, 1), (1, 1)), ((2, 1), (2, 1), (1, 1)), ((5, 1), (7, 1), (1, 1))]
        play = play_of([("a", (1, 1), (1, 1), None, loose)])
        self.assertEqual(final_course(play, "a"), [((0, 1), (0, 1), (1, 1)), ((5, 1), (7, 1), (1, 1))])
        self.assertEqual(play.truth_of("a"), loose)
        play.add_step("a", at=(5, 1), jump=(-2, 1))
        self.assertEqual(final_course(play, "a"), LINE)

    def test_a_clock_without_a_truth(self):
        play = play_of([("a", (1, 1), (1, 1), None, None)])
        for name in ("a", "x", ""):
            self.assertEqual(caught(self, UnknownName, lambda one: final_course(play, one), name).name, name)

    def test_many(self):
        rng = random.Random(71)
        for _ in range(200):
            play = some_play(rng)
            before = told(play)
            for name, truth in play.truths():
                course = final_course(play, name)
                self.assertTrue(is_course(course))
                self.assertEqual(tidy(course), course)
                self.assertEqual(course[0][0], truth[0][0])
                first = fraction(course[0][0])
                times = {first, first + 50} | {Fraction(k, 2) for k in range(2, 14)} | {Fraction(7, 3)}
                for t in sorted(times | {fraction(piece[0]) for piece in course}):
                    self.assertEqual(shown_at(course, rat(t)), rat(plain_shown(play, name, t)))
            self.assertEqual(told(play), before)


class RunTest(unittest.TestCase):
    def check(self, play):
        before = told(play)
        wanted = plain_run(play)
        told_run = run(play)
        self.assertIs(type(told_run), tuple)
        self.assertEqual(told_run, wanted)
        self.assertEqual(repr(run(play)), repr(told_run))
        require_sound(play.base_net(), told_run[0])
        self.assertEqual(told(play), before)
        return wanted

    def test_the_document(self):
        play = pair_play()
        wanted = ([('sent', 1, 'a', (3, 1), 'b'), ('got', 1, 'b', (9, 1))], [(0, 1), (3, 1), (4, 1)])
        self.assertEqual(run(play), wanted)
        self.check(play)

    def test_an_empty_play(self):
        for play in (Play(Net()), Play(sample_net()), play_of([("a", (1, 1), (1, 1), None, LINE)])):
            self.assertEqual(run(play), ([], [(0, 1)]))
            self.assertEqual(true_liars(play), [])

    def test_events_at_one_time_in_their_order(self):
        play = pair_play()
        play.add_mark("b", at=(4, 1))
        play.add_send(2, "b", "a", at=(4, 1), delay=(0, 1))
        play.add_mark("a", at=(4, 1))
        play.add_again(1, delay=(1, 1))
        play.add_mark("a", at=(3, 1))
        play.add_again(2, delay=(0, 1))
        notes, world = self.check(play)
        self.assertEqual(notes, [
            ("sent", 1, "a", (3, 1), "b"), ("mark", "a", (3, 1)), ("got", 1, "b", (9, 1)), ("mark", "b", (9, 1)),
            ("sent", 2, "b", (9, 1), "a"), ("got", 2, "a", (4, 1)), ("mark", "a", (4, 1)), ("got", 1, "b", (9, 1)),
            ("got", 2, "a", (4, 1))])
        self.assertEqual(world, [(t, 1) for t in [0, 3, 3, 4, 4, 4, 4, 4, 4, 4]])

    def test_times_are_ordered_by_value(self):
        play = play_of([("a", (1, 1), (1, 1), None, LINE)])
        for at in [(10, 1), (9, 1), (19, 2), (100, 11), (1, 3), (1, 2)]:
            play.add_mark("a", at=at)
        notes, world = self.check(play)
        self.assertEqual(world, [(0, 1), (1, 3), (1, 2), (9, 1), (100, 11), (19, 2), (10, 1)])
        self.assertEqual([note[2] for note in notes], world[1:])

    def test_times_below_zero(self):
        play = play_of([("a", (1, 1), (1, 1), None, [((-9, 1), (0, 1), (1, 1))])])
        play.add_mark("a", at=(2, 1))
        play.add_mark("a", at=(-5, 1))
        self.assertEqual(self.check(play), ([("mark", "a", (4, 1)), ("mark", "a", (11, 1))], [(0, 1), (-5, 1), (2, 1)]))

    def test_a_lost_message_that_arrives_again(self):
        play = play_of([("a", (1, 1), (1, 1), None, LINE), ("b", (1, 1), (1, 1), None, LINE)],
                       [("a", "b", (0, 1), (9, 1))])
        play.add_send(4, "a", "b", at=(2, 1), delay=None)
        self.assertEqual(self.check(play)[0], [("sent", 4, "a", (2, 1), "b")])
        play.add_again(4, delay=(5, 1))
        play.add_again(4, delay=(0, 1))
        self.assertEqual(self.check(play), ([("sent", 4, "a", (2, 1), "b"), ("got", 4, "b", (2, 1)),
                                             ("got", 4, "b", (7, 1))], [(0, 1), (2, 1), (2, 1), (7, 1)]))

    def test_steps_and_slews_that_are_added_later(self):
        play = pair_play()
        play.add_mark("a", at=(10, 1))
        play.add_step("a", at=(2, 1), jump=(100, 1))
        play.add_slew("b", at=(4, 1), rate=(2, 1))
        play.add_mark("b", at=(6, 1))
        play.add_step("a", at=(3, 1), jump=(1, 1))
        notes, _ = self.check(play)
        self.assertEqual(notes, [("sent", 1, "a", (104, 1), "b"), ("got", 1, "b", (9, 1)), ("mark", "b", (13, 1)),
                                 ("mark", "a", (111, 1))])

    def test_many(self):
        rng = random.Random(72)
        for _ in range(200):
            play = some_play(rng)
            self.check(play)
            self.assertEqual(true_liars(play), plain_liars(play))

    def test_results_are_the_callers(self):
        play = pair_play()
        wanted = run(play)
        notes, world = run(play)
        notes.clear()
        world[0] = (9, 1)
        true_liars(play).append("a")
        final_course(play, "a").clear()
        self.assertEqual(run(play), wanted)
        self.assertEqual(true_liars(play), [])
        self.assertEqual(final_course(play, "a"), LINE)


class LiarsTest(unittest.TestCase):
    def test_by_hand(self):
        play = pair_play()
        self.assertEqual(true_liars(play), [])
        play.add_step("b", at=(5, 1), jump=(1, 1))
        self.assertEqual(true_liars(play), [])
        play.add_mark("b", at=(6, 1))
        self.assertEqual(true_liars(play), ["b"])
        play.add_step("a", at=(3, 1), jump=(1, 9))
        self.assertEqual(true_liars(play), ["a", "b"])

    def test_true_times_are_left_where_the_true_liars_are_few(self):
        rng = random.Random(73)
        used = 0
        for _ in range(100):
            play = some_play(rng, 6)
            notes, world = run(play)
            net = play.base_net()
            claims = claims_of(net, notes)
            liars = true_liars(play)
            self.assertNotIn("", liars)
            for moment in range(len(world)):
                left = left_by(len(world), claims, net.names(), len(liars), moment)
                self.assertIs(left.holds(world[moment]), True)
                used += len(liars) > 0
        self.assertGreater(used, 50)


class PromiseTest(unittest.TestCase):
    def net(self, **more):
        net = Net()
        net.add_clock("a", **more)
        return net

    def check(self, net, course, start, end, wanted):
        told_answer = unchanged(self, lambda one: keeps_promise(net, "a", one, start=start, end=end), course)
        self.assertIs(told_answer, wanted)

    def test_rates(self):
        net = self.net(slow=(1, 2), fast=(2, 1))
        for rates, wanted in [([(1, 2)], True), ([(2, 1)], True), ([(1, 1), (1, 2), (2, 1)], True), ([(49, 100)], False),
                              ([(201, 100)], False), ([(1, 1), (1, 1), (3, 1)], False), ([(1, 1), (1, 3)], False)]:
            course, shown = [], Fraction(0)
            for at, rate in enumerate(rates):
                course.append(((at, 1), rat(shown), rate))
                shown += fraction(rate)
            for start, end in [((0, 1), (0, 1)), ((0, 1), (9, 1)), ((1, 3), (1, 2))]:
                self.check(net, course, start, end, wanted)
        # Also where the wrong piece is behind the end, and where a piece jumps.
        late = [((0, 1), (0, 1), (1, 1)), ((50, 1), (50, 1), (3, 1))]
        self.check(net, late, (0, 1), (1, 1), False)
        self.check(net, [((0, 1), (0, 1), (1, 1)), ((50, 1), (51, 1), (1, 1))], (0, 1), (1, 1), False)
        self.check(net, [((0, 1), (0, 1), (1, 1)), ((50, 1), (50, 1), (1, 1))], (0, 1), (1, 1), True)

    def test_errors_at_their_bound(self):
        net = self.net(slow=(1, 2), fast=(2, 1), error=(3, 1))
        fast = [((0, 1), (1, 1), (2, 1))]
        for start, end, wanted in [((0, 1), (2, 1), True), ((0, 1), (201, 100), False), ((2, 1), (2, 1), True),
                                   ((3, 1), (4, 1), False), ((0, 1), (0, 1), True)]:
            self.check(net, fast, start, end, wanted)
        self.check(net, [((0, 1), (-3, 1), (1, 1))], (0, 1), (99, 1), True)
        self.check(net, [((0, 1), (-301, 100), (1, 1))], (0, 1), (99, 1), False)
        self.check(self.net(slow=(1, 2), fast=(2, 1)), fast, (0, 1), (99, 1), True)
        self.check(self.net(error=(0, 1)), LINE, (0, 1), (99, 1), True)
        self.check(self.net(error=(0, 1)), [((0, 1), (1, 9), (1, 1))], (0, 1), (99, 1), False)

    def test_wrong_arguments(self):
        for net, course in [(self.net(error=(1, 1)), LINE), (self.net(), LINE), (self.net(), [((0, 1), (0, 1), (9, 1))]),
                            (self.net(error=(0, 1)), [((0, 1), (90, 1), (9, 1))])]:
            for name in ("b", ""):
                error = caught(self, UnknownName, lambda one: keeps_promise(net, name, one, start=(-1, 1), end=(-2, 1)),
                               course)
                self.assertEqual(error.name, name)
            for start, end in [((-1, 10 ** 9), (5, 1)), ((-1, 1), (-2, 1))]:
                error = caught(self, BeforeStart, lambda one: keeps_promise(net, "a", one, start=start, end=end), course)
                self.assertEqual(error.value, start)
            error = caught(self, EmptySpan, lambda one: keeps_promise(net, "a", one, start=(2, 1), end=(1, 1)), course)
            self.assertEqual((error.low, error.high), ((2, 1), (1, 1)))

    def test_a_clock_that_keeps_its_promise_is_no_true_liar(self):
        rng = random.Random(74)
        kept = broken = 0
        for _ in range(200):
            play = some_play(rng)
            notes, world = run(play)
            for name, _ in play.truths():
                times = [world[at + 1] for at, note in enumerate(notes) if note[1 if note[0] == "mark" else 2] == name]
                if not times:
                    continue
                if keeps_promise(play.base_net(), name, final_course(play, name), start=times[0], end=times[-1]):
                    self.assertNotIn(name, true_liars(play))
                    kept += 1
                else:
                    broken += 1
        self.assertGreater(min(kept, broken), 20)


def steered_play(most=1):
    """A clock p that pilots by the answers of three servers, of whom z lies."""
    clocks = [("p", (9, 10), (11, 10), None, [((0, 1), (1, 1), (1, 1))])]
    clocks += [(name, (1, 1), (1, 1), (1, 1), [((0, 1), (shown, 2), (1, 1))]) for name, shown in [("x", 1), ("y", -1)]]
    clocks.append(("z", (1, 1), (1, 1), (1, 1), [((0, 1), (9, 1), (1, 1))]))
    play = play_of(clocks, [(name, "p", (1, 2), (1, 1)) for name in ("x", "y", "z")], most)
    for at, name in enumerate(["x", "y", "z", "x", "z"]):
        play.add_send(at + 1, name, "p", at=(at + 1, 1), delay=(3, 4))
        play.add_mark("p", at=(at + 2, 1))
    return play


class PilotTest(unittest.TestCase):
    def check(self, play, name, error=(3, 1), slew=(1, 2), step_over=None):
        wanted = plain_pilot(play, name, error, slew, step_over)
        before = told(play)
        if None in wanted:
            notes = [note for note in run(play)[0] if note[:2] == ("mark", name)]
            back = caught(self, TurnsBack, lambda: pilot(play, name, error=error, slew=slew, step_over=step_over))
            self.assertEqual(back.value, notes[len(wanted) - 1][2])
        else:
            rows = pilot(play, name, error=error, slew=slew, step_over=step_over)
            self.assertEqual(rows, wanted)
            self.assertEqual(pilot(play, name, error=error, slew=slew, step_over=step_over), rows)
            self.assertTrue(all([type(row) is tuple for row in rows]))
        self.assertEqual(told(play), before)
        return wanted

    def test_a_pilot(self):
        for most in (0, 1, 2, 3):
            play = steered_play(most)
            for step_over in (None, (0, 1), (1, 10), (50, 1)):
                rows = self.check(play, "p", step_over=step_over)
                self.assertEqual([row[0] for row in rows], [place for place, note in enumerate(run(play)[0], start=1)
                                                            if note[:2] == ("mark", "p")])
                for before, behind in zip(rows, rows[1:]):
                    self.assertLessEqual(fraction(before[2]), fraction(behind[2]))
        self.assertEqual(pilot(steered_play(), "p", error=(3, 1), slew=(1, 2)),
                         pilot(steered_play(), "p", error=(3, 1), slew=(1, 2), step_over=None))

    def test_the_display_is_never_farther_off_than_told(self):
        play = steered_play(1)
        self.assertEqual(true_liars(play), ["z"])
        notes, world = run(play)
        for step_over in (None, (0, 1)):
            for place, reading, shown, error in self.check(play, "p", (1, 1), (1, 3), step_over):
                self.assertEqual(notes[place - 1], ("mark", "p", reading))
                self.assertLessEqual(abs(fraction(shown) - fraction(world[place])), fraction(error))

    def test_the_display_jumps_only_over_step_over(self):
        play = play_of([("p", (1, 1), (1, 1), None, LINE), ("s", (1, 1), (1, 1), (0, 1), [((0, 1), (7, 1), (1, 1))])],
                       [("s", "p", (0, 1), (0, 1))])
        play.add_send(1, "s", "p", at=(1, 1), delay=(0, 1))
        play.add_mark("p", at=(1, 1))
        play.add_mark("p", at=(2, 1))
        # The span is that s shows 8 at the mark, so the aim is 7 above the display.
        for step_over, wanted in [(None, [(1, 1), (5, 2)]), ((7, 1), [(1, 1), (5, 2)]), ((699, 100), [(8, 1), (9, 1)]),
                                  ((0, 1), [(8, 1), (9, 1)])]:
            rows = self.check(play, "p", (9, 1), (1, 2), step_over)
            self.assertEqual([row[2] for row in rows], wanted)

    def test_no_mark_note(self):
        play = pair_play()
        play.add_mark("b", at=(9, 1))
        nowhere = play_of([("a", (1, 1), (1, 1), None, None)])
        for one in (play, nowhere):
            for error, slew, step_over in [((1, 1), (1, 2), None), ((-1, 1), (5, 1), (-1, 1)), ((0, 1), (0, 1), None)]:
                self.assertEqual(pilot(one, "a", error=error, slew=slew, step_over=step_over), [])
                self.assertIsNot(pilot(one, "a", error=error, slew=slew), pilot(one, "a", error=error, slew=slew))

    def test_no_such_clock(self):
        for play in (steered_play(), Play(Net())):
            for name in ("q", "", "no name"):
                for error in ((1, 1), (-1, 1)):
                    wrong = caught(self, UnknownName, lambda one: pilot(play, one, error=error, slew=(9, 1)), name)
                    self.assertEqual(wrong.name, name)

    def test_what_the_steering_refuses(self):
        # The drift of p is 1/9.
        play = steered_play()
        back = steered_play()
        back.add_step("p", at=(2, 1), jump=(-9, 1))
        back.add_step("p", at=(3, 1), jump=(-9, 1))
        for kind, value, error, slew, step_over in [
            (BadBound, (-1, 9), (-1, 9), (1, 2), None), (BadBound, (-1, 9), (-1, 9), (9, 1), (-1, 1)),
            (BadRate, (0, 1), (1, 1), (0, 1), None), (BadRate, (1, 1), (1, 1), (1, 1), (-1, 1)),
            (BadRate, (-1, 2), (1, 1), (-1, 2), None), (BadRate, (1, 9), (1, 1), (1, 9), None),
            (BadRate, (1, 9), (1, 1), (1, 10), (-1, 1)), (BadBound, (-1, 5), (1, 1), (1, 8), (-1, 5)),
        ]:
            for one in (play, back):
                wrong = caught(self, kind, lambda: pilot(one, "p", error=error, slew=slew, step_over=step_over))
                self.assertEqual(wrong.value, value)
        self.check(play, "p", (0, 1), (1001, 9000), (0, 1))

    def test_readings_that_turn_back(self):
        play = steered_play()
        play.add_step("p", at=(4, 1), jump=(-3, 2))
        self.assertIn(None, self.check(play, "p"))
        self.assertEqual(caught(self, TurnsBack, lambda: pilot(play, "p", error=(3, 1), slew=(1, 2))).value, (7, 2))
        equal = steered_play()
        equal.add_step("p", at=(4, 1), jump=(-1, 1))
        self.assertNotIn(None, self.check(equal, "p"))

    def test_other_notes_of_the_clock_that_turn_back(self):
        play = steered_play()
        # The receipt at 19/4 shows less than the mark before it; the mark at 5 does not.
        play.add_step("p", at=(9, 2), jump=(-9, 1))
        play.add_step("p", at=(49, 10), jump=(9, 1))
        self.assertNotIn(None, self.check(play, "p"))

    def test_no_excuse_and_spans_without_a_width(self):
        play = steered_play(0)
        rows = self.check(play, "p")
        notes, _ = run(play)
        spans = [verdict_span(row[0] + 1, claims_of(play.base_net(), notes[:row[0]]), ["x", "y", "z"], 0, row[0])
                 for row in rows]
        self.assertIn(None, spans)
        alone = play_of([("p", (1, 1), (1, 1), None, LINE), ("s", (1, 1), (1, 1), (0, 1), None)], most=3)
        alone.add_mark("p", at=(3, 1))
        alone.add_mark("p", at=(5, 1))
        self.assertEqual(self.check(alone, "p"), [(1, (3, 1), (3, 1), (3, 1)), (2, (5, 1), (5, 1), (3, 1))])

    def test_the_own_claims_always_hold(self):
        play = play_of([("p", (1, 1), (1, 1), (2, 1), [((0, 1), (5, 1), (1, 1))]), ("s", (1, 1), (1, 1), None, LINE)],
                       most=3)
        play.add_mark("p", at=(0, 1))
        self.assertEqual(self.check(play, "p"), [(1, (5, 1), (5, 1), (2, 1))])

    def test_many(self):
        rng = random.Random(75)
        turned = marks = 0
        for _ in range(120):
            play = some_play(rng, 6)
            for _ in range(3):
                play.add_mark("a", at=(rng.randint(1, 9), 1))
            play.add_step("a", at=(rng.randint(1, 9), 1), jump=some_rational(rng, -4, 2, 1))
            for name in ("a", "c"):
                slew = {"a": (1, 7), "c": (999, 1000)}[name]
                if name == "c":
                    # The drift of c is 1, so no slew is above it.
                    if [note for note in run(play)[0] if note[:2] == ("mark", "c")]:
                        wrong = caught(self, BadRate, lambda: pilot(play, "c", error=(1, 1), slew=slew))
                        self.assertEqual(wrong.value, (1, 1))
                    continue
                rows = self.check(play, name, some_rational(rng, 0, 5), slew, rng.choice([None, (0, 1), (1, 1)]))
                turned += None in rows
                marks += len(rows)
        self.assertGreater(turned, 3)
        self.assertGreater(marks, 50)


if __name__ == "__main__":
    unittest.main()
