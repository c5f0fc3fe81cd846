"""The program as a whole: points 1 to 8, 16, 63, 64 and 79 over several files at once."""

import random
import unittest
from fractions import Fraction

from clockverdict import errors
from clockverdict.arbiter import Arbiter
from clockverdict.audits import audit, audit_entries, is_audit, true_times_left
from clockverdict.claims import claims_of
from clockverdict.courses import elapsed, shown_at
from clockverdict.errors import TooManyLiars
from clockverdict.journals import Journal, replay
from clockverdict.layers import Layers
from clockverdict.leaps import Leaps, label_text, read_label
from clockverdict.machine import final_course, pilot, run, true_liars
from clockverdict.seals import Gate, open_entries, seal_notes
from clockverdict.spans import span_holds
from clockverdict.verdicts import is_time_certificate, left_by, time_certificate
from clockverdict.wording import print_play, read_play
from clockverdict.worlds import broken, liars_in
from tests.support import caught, fraction, laid_open, rat
from tests.test_audits import plain_report

# The own clock p runs a little fast; z lies from the beginning, y from time 7 on.
TEXT = """clock p 9/10 11/10 free
clock x 1 1 1/2
clock y 1 1 1/2
clock z 1 1 1/2
link x p 0 1
link y p 0 1
link z p 0 1
link p x 0 1
liars 2
truth p 0 3 21/20
truth x 0 1/4 1
truth y 0 -1/2 1
truth z 0 6 1
send 1 x p 1 1/2
mark p 2
send 2 y p 2 1
send 3 z p 3 1/4
mark p 4
mark p 5
step y 7 5
send 4 y p 8 0
send 5 x p 8 1/3
mark p 9
"""


def some_text(rng):
    """A play of p and three servers, of whom at most the liar limit lie."""
    most = rng.randint(0, 2)
    liars = rng.sample("xyz", most)
    lines = ["clock p 19/20 21/20 free"] + [f"clock {name} 1 1 1" for name in "xyz"]
    lines += [f"link {name} p {rng.choice(['0', '1/4'])} {rng.choice(['1', 'any'])}" for name in "xyz"]
    lines += [f"liars {most}", f"truth p 0 {rng.randint(-3, 3)} {rng.choice(['1', '21/20', '99/100'])}"]
    for name in "xyz":
        off = rng.choice(["1", "-1", "1/2", "0"]) if name not in liars else str(rng.randint(-20, 20))
        lines.append(f"truth {name} 0 {off} {'1' if name not in liars else rng.choice(['1', '2', '1/2'])}")
    for tag in range(1, 6):
        at = rng.randint(1, 12)
        lines.append(f"send {tag} {rng.choice('xyz')} p {at} {rng.choice(['1/4', '1/2', '1'])}")
        if rng.random() < 0.7:
            lines.append(f"mark p {at + rng.randint(0, 2)}")
    return "\n".join(lines) + "\n"


def heard(play, own, *, slew, error, step_over=None):
    """An arbiter that hears the run of a play and ticks at each mark of its own clock, and what its ticks told."""
    notes, _ = run(play)
    net = play.base_net()
    keys = {name: 100 + at for at, name in enumerate(net.names())}
    entries = seal_notes(keys, notes)
    layers = Layers()
    layers.add_root("z")
    for name in net.names():
        if name != "z":
            layers.add_server(name)
    layers.offer("x", "z", hop=(1, 1))
    layers.offer(own, "z")
    layers.offer(own, "x")
    arbiter = Arbiter(net, layers, keys, own=own, most=play.liar_limit, slew=slew, error=error, step_over=step_over)
    told = []
    for place, (note, entry) in enumerate(zip(notes, entries), start=1):
        if note[:2] == ("mark", own):
            told.append((place, note[2], arbiter.tick(note[2])))
        else:
            assert arbiter.hear([entry]) == [place]
    return arbiter, told


class FromTextToReportTest(unittest.TestCase):
    def test_a_play_from_text_to_run_seals_audit_and_report(self):
        play = read_play(TEXT)
        self.assertEqual(print_play(read_play(print_play(play))), print_play(play))
        notes, world = run(play)
        self.assertEqual(true_liars(play), ["y", "z"])
        net = play.base_net()
        keys = {"p": 5, "x": 6, "y": 7, "z": 8}
        entries = seal_notes(keys, notes)
        self.assertEqual(open_entries(keys, entries), notes)
        for most in range(4):
            report = audit_entries(net, keys, entries, most, trusted=["p"])
            self.assertEqual(laid_open(report[:4]), laid_open(plain_report(net, notes, most, ["p"])))
            self.assertIs(is_audit(net, notes, most, report, trusted=["p"]), True)
        report = audit_entries(net, keys, entries, play.liar_limit, trusted=["p"])
        self.assertIs(report[0], True)
        for name, role in report[2].items():
            self.assertNotEqual(role, "honest" if name in ("y", "z") else "liar")
        for span, t in zip(report[3], world[1:]):
            self.assertIs(span_holds(span, t), True)
        self.assertEqual(true_times_left(play, trusted=["p"]), [True] * len(notes))
        self.assertEqual(true_times_left(play), [True] * len(notes))
        journal = Journal(net, most=play.liar_limit, trusted=["p"])
        for note in notes:
            journal.write(note)
        self.assertEqual([journal.told(moment) for moment in range(1, len(world))], report[3])
        self.assertEqual((journal.roles(), journal.least()), (report[2], report[1]))
        self.assertEqual(laid_open(replay(net, journal.log(), most=2, trusted=["p"])), laid_open(journal))

    def test_true_times_are_left_where_true_liars_are_suspects_and_few(self):
        rng = random.Random(63)
        for _ in range(25):
            play = read_play(some_text(rng))
            notes, world = run(play)
            self.assertLessEqual(len(true_liars(play)), play.liar_limit)
            self.assertEqual(true_times_left(play, trusted=["p"]), [True] * len(notes))
            net = play.base_net()
            claims = claims_of(net, notes)
            for moment in rng.sample(range(len(world)), min(3, len(world))):
                proof = time_certificate(len(world), claims, ["x", "y", "z"], play.liar_limit, moment, world[moment])
                self.assertEqual(proof[0], "world")
                self.assertIs(is_time_certificate(len(world), claims, ["x", "y", "z"], play.liar_limit, moment,
                                                  world[moment], proof), True)

    def test_honest_clocks_need_as_long_as_point_16_says(self):
        rng = random.Random(16)
        for _ in range(20):
            play = read_play(some_text(rng))
            net = play.base_net()
            notes, world = run(play)
            slow, fast = net.rates_of("p")
            own = [(note[-1], world[place]) for place, note in enumerate(notes, start=1) if note[-2] == "p" and note[0] != "sent"]
            for reading, t in own:
                self.assertEqual(reading, shown_at(final_course(play, "p"), t))
                for other, u in own:
                    gap = rat(fraction(other) - fraction(reading))
                    self.assertIs(span_holds(elapsed(gap, slow, fast), rat(fraction(u) - fraction(t))), True)


class DisplaysTest(unittest.TestCase):
    def check(self, play, error, slew, step_over):
        """The arbiter tells what the pilot tells; the display never turns back and is within its bound."""
        rows = pilot(play, "p", error=error, slew=slew, step_over=step_over)
        arbiter, told = heard(play, "p", slew=slew, error=error, step_over=step_over)
        self.assertEqual([(place, reading, tick[2], tick[3]) for place, reading, tick in told], rows)
        self.assertEqual([tick[0] for place, reading, tick in told], [row[0] for row in rows])
        self.assertEqual(arbiter.notes(), run(play)[0])
        world = run(play)[1]
        for place, reading, shown, bound in rows:
            # The first error holds where the first reading is that far away from the true time.
            self.assertLessEqual(abs(fraction(shown) - fraction(world[place])), fraction(bound))
        for before, behind in zip(rows, rows[1:]):
            self.assertLessEqual(fraction(before[2]), fraction(behind[2]))
        for place, reading, (_, span, _, _, condemned) in told:
            self.assertIs(span_holds(span, world[place]), True)
            self.assertTrue(set(condemned) <= set(true_liars(play)))
        if told:
            shown = [fraction(arbiter.display(rat(fraction(told[0][1]) + Fraction(k, 3)))) for k in range(60)]
            self.assertEqual(shown, sorted(shown))
        leader = arbiter.leader()
        self.assertNotIn(leader, [name for _, _, tick in told for name in tick[4]])
        return rows, told

    def first_error(self, play):
        """How far the own clock is off at its first mark; zero without one."""
        notes, world = run(play)
        offs = [abs(fraction(note[2]) - fraction(world[place])) for place, note in enumerate(notes, start=1)
                if note[:2] == ("mark", "p")]
        return rat(offs[0] if offs else 0)

    def test_the_play_of_the_text(self):
        play = read_play(TEXT)
        for step_over in (None, (0, 1), (1, 2)):
            rows, told = self.check(play, (4, 1), (1, 4), step_over)
            self.assertEqual(len(rows), 4)

    def test_many(self):
        rng = random.Random(64)
        marks = condemned = 0
        for _ in range(40):
            play = read_play(some_text(rng))
            rows, told = self.check(play, self.first_error(play), (1, 5), rng.choice([None, (0, 1), (1, 1)]))
            marks += len(rows)
            condemned += sum([len(tick[4]) for _, _, tick in told])
        self.assertGreater(marks, 60)
        self.assertGreater(condemned, 3)

    def test_what_a_tick_has_told_holds_in_each_world_with_few_liars(self):
        rng = random.Random(79)
        for _ in range(15):
            play = read_play(some_text(rng))
            arbiter, told = heard(play, "p", slew=(1, 5), error=self.first_error(play))
            notes, world = run(play)
            claims = claims_of(play.base_net(), notes)
            failing = liars_in(claims, world)
            self.assertTrue(set(failing) <= set("xyz") and len(failing) <= play.liar_limit)
            owners = {claims[at][3] for at in broken(claims, world)}
            for place, _, (_, span, shown, bound, condemned) in told:
                self.assertIs(span_holds(span, world[place]), True)
                self.assertTrue(set(condemned) <= owners)


class SharpenTest(unittest.TestCase):
    def test_further_notes_only_sharpen(self):
        rng = random.Random(791)
        kept = 0
        for _ in range(25):
            play = read_play(some_text(rng))
            net, (notes, _) = play.base_net(), run(play)
            journal = Journal(net, most=play.liar_limit, trusted=["p"])
            before, roles = [], {}
            for note in notes:
                journal.write(note)
                covers = [journal.left(moment) for moment in range(len(journal.notes()) + 1)]
                for old, new in zip(before, covers):
                    self.assertIs(new.inside(old), True)
                now = journal.roles()
                for name, role in roles.items():
                    if role != "open":
                        self.assertEqual(now[name], role)
                        kept += 1
                before, roles = covers, now
        self.assertGreater(kept, 50)

    def test_notes_in_any_order_of_places(self):
        # The places say nothing about true times, so an order that keeps messages behind their sending leaves the same.
        rng = random.Random(792)
        for _ in range(10):
            play = read_play(some_text(rng))
            net, (notes, _) = play.base_net(), run(play)
            sends = [note for note in notes if note[0] == "sent"]
            others = [note for note in notes if note[0] != "sent"]
            rng.shuffle(sends)
            # Equal readings of one clock stand in the order of their places, which sets the same bounds.
            mixed = sends + rng.sample(others, len(others))
            names = ["x", "y", "z"]
            for note in notes:
                if notes.count(note) > 1:
                    continue
                covers = [left_by(len(rows) + 1, claims_of(net, rows), names, play.liar_limit, rows.index(note) + 1)
                          for rows in (notes, mixed)]
                self.assertEqual(list(covers[0]), list(covers[1]))


class ErrorsTest(unittest.TestCase):
    def test_errors_that_the_whole_program_shares(self):
        play = read_play(TEXT)
        net, (notes, _) = play.base_net(), run(play)
        first = caught(self, TooManyLiars, replay(net, [("write", note, False) for note in notes], trusted=["p"]).roles)
        second = caught(self, TooManyLiars, replay(net, [("write", note, True) for note in notes], trusted=["p"]).roles)
        self.assertEqual(type(first).__mro__[1], errors.VerdictError)
        self.assertIs(first.rings, first.rings)
        self.assertIsNot(first.rings, second.rings)
        first.rings.clear()
        self.assertTrue(second.rings)
        report = audit(net, notes, 0, trusted=["p"])
        report[4].clear()
        self.assertTrue(audit(net, notes, 0, trusted=["p"])[4])

    def test_a_gate_and_an_arbiter_refuse_alike(self):
        play = read_play(TEXT)
        net, (notes, _) = play.base_net(), run(play)
        keys = {"p": 5, "x": 6, "y": 7, "z": 8}
        entries = seal_notes(keys, notes)
        rng = random.Random(59)
        for _ in range(60):
            mixed = rng.sample(entries, rng.randint(1, 5)) + rng.sample(entries, rng.randint(0, 2))
            at = rng.randrange(len(mixed))
            if rng.random() < 0.5:
                mixed[at] = mixed[at][:3] + ((mixed[at][3] + 1) % 1000,)
            arbiter = Arbiter(net, Layers(), keys, own="p", slew=(1, 2), error=(1, 1))
            told = []
            for call in (Gate(keys).admit_all, Gate(keys).examine, lambda rows: open_entries(keys, rows), arbiter.hear):
                try:
                    call(mixed)
                    told.append(None)
                except errors.RefusedEntry as error:
                    told.append((error.place, error.reason))
                except errors.BadNote:
                    told.append(None)
            self.assertEqual(told, [told[0]] * 4)

    def test_labels_of_true_times(self):
        leaps = Leaps([(0, 1), (-1, -1)])
        play = read_play(TEXT)
        for t in run(play)[1]:
            for shift in (0, 86395, -5):
                moved = rat(fraction(t) + shift)
                self.assertEqual(read_label(leaps, label_text(leaps, moved)), moved)


if __name__ == "__main__":
    unittest.main()
