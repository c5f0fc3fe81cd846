"""Points 76 to 79, and the interface's arbiter.py."""

import copy
import random
import unittest

from clockverdict.arbiter import Arbiter
from clockverdict.errors import BadBound, BadNote, BadRate, BeforeStart, RefusedEntry, TooManyLiars, TurnsBack, UnknownName
from clockverdict.layers import Layers
from clockverdict.nets import Net
from clockverdict.seals import cells_of, seal_notes, sealed_entry
from tests.judging import excuses_of, good_case, left_of, roles_of
from tests.noting import sample_net
from tests.support import caught, fraction, laid_open, rat, some_rational, unchanged
from tests.test_audits import plain_suspects, simple_net
from tests.test_claims import plain_claims
from tests.test_steering import Plain

KEYS = {"o": 11, "s": 22, "t": 33, "u": 44, "zz": 55}


def server_net(error=(1, 1), **rates):
    """The own clock o, and three servers that claim to be right within 1; messages take up to a second."""
    net = Net()
    net.add_clock("o", error=error, **rates)
    for name in ("s", "t", "u"):
        net.add_clock(name, error=(1, 1))
        net.add_link(name, "o", high=(1, 1))
        net.add_link("o", name, high=(1, 1))
    return net


def server_layers():
    layers = Layers()
    layers.add_root("r")
    for name in ("o", "s", "t", "u"):
        layers.add_server(name)
    for name, hop in (("s", (1, 1)), ("t", (2, 1)), ("u", (3, 1))):
        layers.offer(name, "r", hop=hop)
        layers.offer("o", name, hop=(1, 1))
    return layers


def arbiter_of(net=None, layers=None, keys=None, **more):
    settings = dict(own="o", most=1, slew=(1, 10), error=(5, 1))
    settings.update(more)
    return Arbiter(server_net() if net is None else net, server_layers() if layers is None else layers,
                   KEYS if keys is None else keys, **settings)


class Speaker:
    """Seals notes one by one, with the next counter of each sender."""

    def __init__(self):
        self.counters = {}

    def __call__(self, *notes):
        entries = []
        for note in notes:
            sender = note[1] if note[0] == "mark" else note[2]
            self.counters[sender] = self.counters.get(sender, 0) + 1
            entries.append(sealed_entry(KEYS[sender], sender, self.counters[sender], cells_of(note)))
        return entries


def message(tag, server, told, reading):
    """The notes of a message of a server to o."""
    return (("sent", tag, server, told, "o"), ("got", tag, "o", reading))


class PlainArbiter:
    """Points 76 to 78, written apart from the program."""

    def __init__(self, net, layers, own, most, slew, error, step_over):
        self.net, self.layers, self.own, self.most = net, layers, own, most
        self.suspects = plain_suspects(net, [own])
        self.settings = (slew, error, step_over)
        self.notes, self.steering, self.first = [], None, None

    def found(self):
        claims = plain_claims(self.net, self.notes)
        return claims, excuses_of(len(self.notes) + 1, claims, self.suspects, self.most)

    def tick(self, reading):
        self.notes.append(("mark", self.own, reading))
        claims, found = self.found()
        place = len(self.notes)
        left = left_of(place + 1, claims, self.suspects, self.most, place)
        span = (left[0][0], left[-1][1]) if left else None
        raw = fraction(reading)
        if self.steering is None:
            slow, fast = [fraction(rate) for rate in self.net.rates_of(self.own)]
            drift = max(abs(1 - 1 / fast), abs(1 - 1 / slow))
            slew, error, step_over = self.settings
            self.first = raw
            self.steering = Plain(raw, raw, fraction(error), fraction(slew), drift,
                                  None if step_over is None else fraction(step_over))
        self.steering.steer(raw, None if span is None else tuple([None if end is None else fraction(end) for end in span]))
        condemned = []
        for name, role in (roles_of(found, self.suspects) if found else {}).items():
            if role == "liar" and name in self.layers.names() and self.layers.state_of(name) != "condemned":
                self.layers.condemn(name)
                condemned.append(name)
        return (place, span, rat(self.steering.display(raw)), rat(self.steering.error_at(raw)), condemned)

    def display(self, raw):
        return rat(self.steering.display(fraction(raw)))


class ConstructorTest(unittest.TestCase):
    def test_no_such_clock(self):
        for own in ("zz", "r", "", "O", "no name"):
            self.assertEqual(caught(self, UnknownName, arbiter_of, own=own).name, own)
        self.assertEqual(caught(self, UnknownName, arbiter_of, net=Net()).name, "o")

    def test_the_slew(self):
        # The drift of o is the greater one of 1/11 and 1/4.
        net = server_net(slow=(4, 5), fast=(11, 10))
        for slew in [(1, 1), (3, 2), (1, 4), (1, 11), (0, 1), (-1, 2), (6, 25)]:
            self.assertEqual(caught(self, BadRate, arbiter_of, net=net, slew=slew).value, slew)
        for slew in [(251, 1000), (999, 1000)]:
            arbiter_of(net=net, slew=slew)
        # Without a drift, it is above zero.
        for slew in [(0, 1), (-1, 10), (1, 1)]:
            self.assertEqual(caught(self, BadRate, arbiter_of, slew=slew).value, slew)
        arbiter_of(slew=(1, 10 ** 9))
        # A drift of 1 or more leaves no slew.
        for slow in [(1, 2), (1, 3)]:
            for slew in [(999, 1000), (1, 1), (2, 1)]:
                self.assertEqual(caught(self, BadRate, arbiter_of, net=server_net(slow=slow), slew=slew).value, slew)

    def test_the_error_and_step_over(self):
        for error in [(-1, 1), (-1, 10 ** 9)]:
            self.assertEqual(caught(self, BadBound, arbiter_of, error=error).value, error)
            self.assertEqual(caught(self, BadBound, arbiter_of, step_over=error).value, error)
        arbiter_of(error=(0, 1), step_over=(0, 1))
        arbiter_of(error=(0, 1), step_over=None)

    def test_several_at_once(self):
        for more, kind, value in [
            (dict(own="zz", slew=(2, 1), error=(-1, 1), step_over=(-2, 1)), UnknownName, {"name": "zz"}),
            (dict(slew=(2, 1), error=(-1, 1), step_over=(-2, 1)), BadRate, {"value": (2, 1)}),
            (dict(slew=(0, 1), step_over=(-2, 1)), BadRate, {"value": (0, 1)}),
            (dict(error=(-1, 1), step_over=(-2, 1)), BadBound, {"value": (-1, 1)}),
        ]:
            self.assertEqual(vars(caught(self, kind, arbiter_of, **more)), value)

    def test_what_is_passed_stays_as_it_is_and_apart(self):
        net, layers, keys = server_net(), server_layers(), dict(KEYS)
        before = laid_open((net, layers, keys))
        arbiter = arbiter_of(net, layers, keys, most=1)
        speak = Speaker()
        arbiter.hear(speak(*message(1, "u", (90, 1), (1, 1)), *message(2, "s", (1, 1), (1, 1))))
        self.assertEqual(arbiter.tick((2, 1))[4], ["u"])
        self.assertEqual(laid_open((net, layers, keys)), before)
        self.assertEqual(layers.state_of("u"), "live")
        # Later changes have no effect.
        table = arbiter.table()
        net.add_clock("w", error=(0, 1))
        net.add_link("w", "o")
        layers.condemn("s")
        layers.silence("r")
        keys["s"] = 999
        del keys["t"]
        self.assertEqual(arbiter.table(), table)
        self.assertEqual(arbiter.hear(speak(*message(3, "t", (2, 1), (2, 1)), *message(4, "s", (2, 1), (2, 1)))), [6, 7, 8, 9])
        self.assertEqual(list(arbiter.roles()), ["s", "t", "u"])

    def test_the_default_most(self):
        first = Arbiter(server_net(), Layers(), {}, own="o", slew=(1, 10), error=(5, 1))
        second = Arbiter(server_net(), Layers(), {}, own="o", most=0, slew=(1, 10), error=(5, 1), step_over=None)
        self.assertEqual(laid_open(first), laid_open(second))
        self.assertEqual(first.roles(), dict.fromkeys(["s", "t", "u"], "honest"))
        self.assertEqual(arbiter_of(most=2).roles(), dict.fromkeys(["s", "t", "u"], "open"))


class HearTest(unittest.TestCase):
    def setUp(self):
        self.arbiter = arbiter_of()
        self.speak = Speaker()

    def refused(self, entries, place, reason, kind=RefusedEntry):
        before = laid_open(self.arbiter)
        error = caught(self, kind, self.arbiter.hear, entries)
        self.assertEqual((error.place, error.reason), (place, reason))
        self.assertEqual(laid_open(self.arbiter), before)

    def test_in_one_list_and_in_several(self):
        notes = [*message(1, "s", (1, 1), (1, 1)), *message(2, "t", (2, 1), (2, 1)), ("mark", "u", (3, 1))]
        entries = self.speak(*notes)
        self.assertEqual(self.arbiter.hear(entries), [1, 2, 3, 4, 5])
        self.assertEqual(self.arbiter.notes(), notes)
        other = arbiter_of()
        places = [other.hear([entry]) for entry in entries]
        self.assertEqual(places, [[1], [2], [3], [4], [5]])
        self.assertEqual(other.notes(), notes)
        self.assertEqual(laid_open(other.tick((3, 1))), laid_open(self.arbiter.tick((3, 1))))
        self.assertEqual(self.arbiter.hear([]), [])

    def test_places_count_the_marks_of_ticks_too(self):
        self.assertEqual(self.arbiter.hear(self.speak(*message(1, "s", (1, 1), (1, 1)))), [1, 2])
        self.assertEqual(self.arbiter.tick((1, 1))[0], 3)
        self.assertEqual(self.arbiter.hear(self.speak(("mark", "s", (5, 1)), ("mark", "o", (1, 1)))), [4, 5])
        self.assertEqual(self.arbiter.tick((2, 1))[0], 6)
        self.assertEqual(self.arbiter.notes(), [*message(1, "s", (1, 1), (1, 1)), ("mark", "o", (1, 1)), ("mark", "s", (5, 1)),
                                                ("mark", "o", (1, 1)), ("mark", "o", (2, 1))])

    def test_entries_of_the_own_clock(self):
        self.assertEqual(self.arbiter.hear(self.speak(("sent", 1, "o", (0, 1), "s"), ("got", 1, "s", (1, 1)))), [1, 2])
        self.assertEqual(self.arbiter.hear(self.speak(("mark", "o", (9, 1)))), [3])
        # Other notes of the own clock do not matter for ticks.
        self.assertEqual(self.arbiter.tick((4, 1))[0], 4)

    def test_what_the_gate_refuses(self):
        good = self.speak(*message(1, "s", (1, 1), (1, 1)))
        self.refused([("x", 1, (), 0)], 1, "sender")
        self.refused(good + [("x", 1, (), 0)], 3, "sender")
        self.refused(good + [good[0][:3] + (0,)], 3, "seal")
        self.refused(good + [good[1]], 3, "replay")
        self.assertEqual(self.arbiter.hear(good), [1, 2])
        self.refused(good, 1, "replay")
        self.refused(self.speak(("mark", "t", (1, 1))) + good[1:], 2, "replay")

    def test_a_refusal_stands_ahead_of_the_notes_of_earlier_entries(self):
        no_note = sealed_entry(KEYS["s"], "s", 7, (5,))
        fault = sealed_entry(KEYS["s"], "s", 8, cells_of(("got", 9, "s", (1, 1))))
        self.refused([no_note, ("x", 1, (), 0)], 2, "sender")
        self.refused([fault, no_note, no_note], 3, "replay")
        self.refused([fault, no_note], 2, "cells")
        self.refused([no_note, fault], 1, "cells")
        self.refused([fault], 1, "tag", BadNote)

    def test_cells_of_a_note_of_another_clock(self):
        for sender, note in [("s", ("mark", "t", (1, 1))), ("s", ("sent", 1, "o", (1, 1), "s")), ("zz", ("mark", "s", (1, 1))),
                             ("o", ("got", 1, "s", (1, 1)))]:
            self.refused(self.speak(("mark", "u", (0, 1))) + [sealed_entry(KEYS[sender], sender, 1, cells_of(note))], 2, "cells")

    def test_senders_that_are_no_clocks(self):
        # The cells are those of a note of the sender; that the net has no such clock is a fault of the note.
        self.refused(self.speak(("mark", "zz", (1, 1))), 1, "clock", BadNote)
        self.refused(self.speak(("mark", "s", (1, 1)), ("sent", 3, "zz", (1, 1), "o")), 2, "clock", BadNote)
        self.refused([sealed_entry(KEYS["zz"], "zz", 9, (1, 2))], 1, "cells")

    def test_faults_with_the_place_in_the_journal(self):
        self.arbiter.hear(self.speak(*message(1, "s", (1, 1), (1, 1))))
        self.arbiter.tick((1, 1))
        for notes, place, reason in [
            ([("got", 5, "o", (1, 1))], 4, "tag"), ([("sent", 1, "t", (1, 1), "o")], 4, "tag"),
            ([("mark", "s", (1, 1)), ("got", 1, "t", (1, 1))], 5, "goal"), ([("sent", 2, "s", (1, 1), "t")], 4, "link"),
            ([("mark", "s", (1, 1)), ("sent", 2, "s", (1, 1), "q")], 5, "clock"),
            ([*message(2, "s", (1, 1), (1, 1)), *message(2, "s", (1, 1), (1, 1))], 6, "tag"),
        ]:
            self.refused(self.speak(*notes), place, reason, BadNote)
        # A message may be sent in one call and arrive in another.
        self.assertEqual(self.arbiter.hear(self.speak(message(3, "s", (2, 1), (2, 1))[0])), [4])
        self.assertEqual(self.arbiter.hear(self.speak(message(3, "s", (2, 1), (2, 1))[1])), [5])

    def test_an_error_anywhere_in_the_list_leaves_all_as_it_was(self):
        good = self.speak(*message(1, "s", (1, 1), (1, 1)), *message(2, "t", (1, 1), (1, 1)))
        bad = [("x", 1, (), 0), good[0][:3] + (0,), sealed_entry(KEYS["u"], "u", 1, (9,)),
               sealed_entry(KEYS["u"], "u", 1, cells_of(("got", 7, "u", (1, 1))))]
        for place in range(len(good) + 1):
            for wrong in bad:
                before = laid_open(self.arbiter)
                entries = good[:place] + [wrong] + good[place:]
                caught(self, BadNote if wrong == bad[3] else RefusedEntry, self.arbiter.hear, entries)
                self.assertEqual(laid_open(self.arbiter), before)
        self.assertEqual(self.arbiter.hear(good), [1, 2, 3, 4])
        self.assertEqual(self.arbiter.hear([sealed_entry(KEYS["u"], "u", 1, cells_of(("mark", "u", (2, 1))))]), [5])


class TickTest(unittest.TestCase):
    def setUp(self):
        self.speak = Speaker()

    def test_the_document(self):
        arbiter = Arbiter(simple_net(("o", (0, 1))), Layers(), {}, own="o", slew=(1, 10), error=(4, 1))
        self.assertEqual(arbiter.tick((5, 1)), (1, ((5, 1), (5, 1)), (5, 1), (0, 1), []))
        self.assertEqual(arbiter.notes(), [("mark", "o", (5, 1))])
        self.assertEqual(arbiter.roles(), {})

    def test_the_steering_begins_at_the_first_tick(self):
        arbiter = arbiter_of(simple_net(("o", None)))
        self.assertEqual(arbiter.tick((7, 2)), (1, (None, None), (7, 2), (5, 1), []))
        self.assertEqual(arbiter.display((9, 2)), (9, 2))
        self.assertEqual(arbiter.tick((9, 2)), (2, (None, None), (9, 2), (5, 1), []))

    def test_the_drift_is_that_of_the_own_clock(self):
        net = Net()
        net.add_clock("o", slow=(19, 20), fast=(1, 1))
        arbiter = arbiter_of(net, error=(1, 1))
        self.assertEqual(arbiter.tick((0, 1))[3], (1, 1))
        self.assertEqual(arbiter.tick((38, 1))[3], (3, 1))

    def test_a_display_that_is_slewed_and_one_that_jumps(self):
        # The aim is 7/2, which is 5/2 above the display.
        for step_over, shown, later in [(None, (1, 1), (12, 1)), ((5, 2), (1, 1), (12, 1)), ((12, 5), (7, 2), (27, 2)),
                                        ((0, 1), (7, 2), (27, 2))]:
            arbiter = arbiter_of(server_net(None), step_over=step_over, most=0)
            arbiter.hear(Speaker()(*message(1, "s", (3, 1), (1, 1))))
            found = arbiter.tick((1, 1))
            self.assertEqual(found[:3] + found[4:], (3, ((2, 1), (5, 1)), shown, []))
            self.assertEqual(arbiter.display((11, 1)), later)
            self.assertEqual(arbiter.display((61, 1)), (127, 2))

    def test_without_an_excuse(self):
        arbiter = arbiter_of(most=0)
        arbiter.hear(self.speak(*message(1, "s", (50, 1), (1, 1))))
        self.assertEqual(arbiter.tick((1, 1)), (3, None, (1, 1), (5, 1), []))
        error = caught(self, TooManyLiars, arbiter.roles)
        self.assertTrue(good_case(plain_claims(server_net(), arbiter.notes()), ["s", "t", "u"], 0, error.rings, 4))
        self.assertEqual(arbiter.tick((2, 1)), (4, None, (2, 1), (5, 1), []))
        self.assertEqual([row[0] for row in arbiter.table()], ["o", "r", "s", "t", "u"])

    def test_ticks_that_turn_back_change_nothing(self):
        arbiter = arbiter_of()
        arbiter.tick((3, 1))
        arbiter.hear(self.speak(*message(1, "u", (90, 1), (3, 1))))
        before = laid_open(arbiter)
        for reading in [(2, 1), (299, 100), (-5, 1)]:
            self.assertEqual(caught(self, TurnsBack, arbiter.tick, reading).value, reading)
            self.assertEqual(laid_open(arbiter), before)
        self.assertEqual(arbiter.tick((3, 1))[0], 4)
        self.assertEqual(arbiter.tick((4, 1))[0], 5)
        self.assertEqual(caught(self, TurnsBack, arbiter.tick, (7, 2)).value, (7, 2))

    def test_other_notes_of_the_own_clock_do_not_matter(self):
        arbiter = arbiter_of()
        arbiter.tick((3, 1))
        arbiter.hear(self.speak(("mark", "o", (50, 1))))
        self.assertEqual(arbiter.tick((4, 1))[0], 3)

    def test_condemned_servers_are_told_once_and_ascending(self):
        arbiter = arbiter_of(most=2)
        self.assertEqual(arbiter.leader(), "s")
        arbiter.hear(self.speak(*message(1, "u", (90, 1), (1, 1)), *message(2, "s", (70, 1), (1, 1))))
        self.assertEqual(arbiter.tick((2, 1))[4], ["s", "u"])
        self.assertEqual(arbiter.roles(), {"s": "liar", "t": "honest", "u": "liar"})
        self.assertEqual(arbiter.tick((3, 1))[4], [])
        self.assertEqual(arbiter.leader(), "t")
        self.assertEqual(arbiter.table(), [("o", (3, 1), 2, "t"), ("r", (0, 1), 0, None), ("t", (2, 1), 1, "r")])

    def test_silent_servers_condemned_ones_and_those_that_the_layers_do_not_have(self):
        layers = server_layers()
        layers.silence("u")
        arbiter = arbiter_of(layers=layers)
        arbiter.hear(self.speak(*message(1, "u", (90, 1), (1, 1)), *message(2, "s", (1, 1), (1, 1))))
        self.assertEqual(arbiter.tick((2, 1))[4], ["u"])
        self.speak = Speaker()
        layers.condemn("u")
        arbiter = arbiter_of(layers=layers)
        arbiter.hear(self.speak(*message(1, "u", (90, 1), (1, 1)), *message(2, "s", (1, 1), (1, 1))))
        self.assertEqual(arbiter.tick((2, 1))[4], [])
        self.assertEqual(arbiter.roles()["u"], "liar")
        self.speak = Speaker()
        bare = Layers()
        bare.add_root("o")
        arbiter = arbiter_of(layers=bare)
        arbiter.hear(self.speak(*message(1, "u", (90, 1), (1, 1)), *message(2, "s", (1, 1), (1, 1))))
        self.assertEqual(arbiter.tick((2, 1))[4], [])

    def test_the_own_clock_is_no_suspect(self):
        # All three servers agree against the own clock's error bound, so there is no excuse.
        arbiter = arbiter_of(most=2)
        for tag, name in enumerate("stu", start=1):
            arbiter.hear(self.speak(*message(tag, name, (50, 1), (1, 1))))
        place, span, shown, error, condemned = arbiter.tick((2, 1))
        self.assertEqual((span, condemned), (None, []))
        self.assertEqual(arbiter_of(most=3).roles(), dict.fromkeys("stu", "open"))

    def test_a_condemned_root_and_an_own_clock_that_leads_nobody(self):
        layers = Layers()
        layers.add_root("u", error=(0, 1))
        layers.add_server("o")
        layers.offer("o", "u")
        arbiter = arbiter_of(layers=layers)
        self.assertEqual(arbiter.leader(), "u")
        arbiter.hear(self.speak(*message(1, "u", (90, 1), (1, 1)), *message(2, "s", (1, 1), (1, 1))))
        self.assertEqual(arbiter.tick((2, 1))[4], ["u"])
        self.assertIsNone(arbiter.leader())
        self.assertEqual(arbiter.table(), [])

    def test_condemning_changes_no_claim(self):
        net = server_net()
        arbiter = arbiter_of(net)
        arbiter.hear(self.speak(*message(1, "u", (90, 1), (1, 1)), *message(2, "s", (1, 1), (1, 1))))
        arbiter.tick((2, 1))
        plain = PlainArbiter(net, server_layers(), "o", 1, (1, 10), (5, 1), None)
        plain.notes = list(arbiter.notes())
        self.assertEqual(arbiter.tick((3, 1))[1], plain.tick((3, 1))[1])


class DisplayTest(unittest.TestCase):
    def test_below_the_first_tick_between_ticks_and_beyond(self):
        arbiter = arbiter_of()
        for raw in [(0, 1), (5, 1), (-1, 2)]:
            self.assertEqual(caught(self, BeforeStart, arbiter.display, raw).value, raw)
        arbiter.hear(Speaker()(*message(1, "s", (6, 1), (5, 1))))
        rows = [arbiter.tick((5, 1)), arbiter.tick((9, 1)), arbiter.tick((30, 1))]
        for (place, span, shown, error, condemned), raw in zip(rows, [(5, 1), (9, 1), (30, 1)]):
            self.assertEqual(arbiter.display(raw), shown)
        for raw in [(4, 1), (499, 100), (-7, 1)]:
            self.assertEqual(caught(self, BeforeStart, arbiter.display, raw).value, raw)
        before = None
        for k in range(50, 500, 3):
            shown = fraction(arbiter.display(rat(k, 10)))
            self.assertTrue(before is None or shown > before)
            before = shown

    def test_leader_without_a_place_in_the_layers(self):
        self.assertIsNone(arbiter_of(layers=Layers()).leader())
        self.assertEqual(arbiter_of(layers=Layers()).table(), [])
        layers = Layers()
        layers.add_root("o")
        self.assertIsNone(arbiter_of(layers=layers).leader())
        self.assertEqual(arbiter_of(layers=layers).table(), [("o", (0, 1), 0, None)])
        layers = Layers()
        layers.add_server("o")
        self.assertIsNone(arbiter_of(layers=layers).leader())
        layers = server_layers()
        layers.silence("o")
        self.assertIsNone(arbiter_of(layers=layers).leader())
        layers.condemn("o")
        self.assertIsNone(arbiter_of(layers=layers).leader())

    def test_what_is_returned_may_be_changed(self):
        arbiter = arbiter_of()
        speak = Speaker()
        entries = speak(*message(1, "u", (90, 1), (1, 1)), *message(2, "s", (1, 1), (1, 1)))
        arbiter.hear(entries).clear()
        entries.clear()
        row = arbiter.tick((2, 1))
        row[4].clear()
        before = laid_open((arbiter, arbiter.notes(), arbiter.roles(), arbiter.table()))
        for call in (arbiter.notes, arbiter.roles, arbiter.table):
            unchanged(self, call).clear()
        self.assertEqual(laid_open((arbiter, arbiter.notes(), arbiter.roles(), arbiter.table())), before)
        self.assertEqual(arbiter.display((2, 1)), arbiter.display((2, 1)))


class ModelTest(unittest.TestCase):
    """An arbiter beside its plain twin, over many calls."""

    def test_many(self):
        rng = random.Random(78)
        seen = {"span": 0, "none": 0, "open": 0, "condemned": 0}
        for _ in range(40):
            net = server_net(rng.choice([None, (1, 1), (3, 1)]), slow=rng.choice([(1, 1), (19, 20)]))
            layers = server_layers()
            if rng.random() < 0.5:
                layers.silence(rng.choice("stu"))
            settings = (rng.randint(0, 2), rat(rng.randint(1, 4), 10), some_rational(rng, 0, 5),
                        rng.choice([None, (0, 1), (1, 2)]))
            most, slew, error, step_over = settings
            arbiter = Arbiter(net, layers, KEYS, own="o", most=most, slew=slew, error=error, step_over=step_over)
            plain = PlainArbiter(net, copy.deepcopy(layers), "o", most, slew, error, step_over)
            speak, raw, tag, wrong = Speaker(), rng.randint(0, 4), 0, rng.choice(["", "s", "tu"])
            for _ in range(rng.randint(1, 4)):
                for server in rng.sample("stu", rng.randint(0, 2)):
                    tag += 1
                    told = rat(raw * 2 + rng.choice([0, 1, -1]) + (40 if server in wrong else 0), 2)
                    notes = message(tag, server, told, (raw, 1))
                    self.assertEqual(arbiter.hear(speak(*notes)), [len(plain.notes) + 1, len(plain.notes) + 2])
                    plain.notes.extend(notes)
                raw += rng.randint(0, 3)
                told, wanted = arbiter.tick((raw, 1)), plain.tick((raw, 1))
                self.assertEqual(laid_open(told), laid_open(wanted))
                kind = "none" if told[1] is None else "open" if None in told[1] else "span"
                seen[kind] += 1
                seen["condemned"] += len(told[4])
                self.assertEqual(arbiter.notes(), plain.notes)
                self.assertEqual(arbiter.table(), plain.layers.table())
                self.assertEqual(arbiter.leader(), plain.layers.parent_of("o"))
                for k in range(5):
                    at = rat(plain.first + rng.randint(0, 12), 1)
                    self.assertEqual(arbiter.display(at), plain.display(at))
                found = plain.found()[1]
                if found:
                    self.assertEqual(arbiter.roles(), roles_of(found, ["s", "t", "u"]))
        self.assertGreater(min(seen.values()), 5)

    def test_notes_of_any_kind(self):
        rng = random.Random(781)
        keys = dict.fromkeys("abcd", 99)
        for _ in range(20):
            net = sample_net()
            layers = Layers()
            arbiter = Arbiter(net, layers, keys, own="a", most=2, slew=(1, 3), error=(1, 1))
            plain = PlainArbiter(net, Layers(), "a", 2, (1, 3), (1, 1), None)
            notes = [("mark", name, some_rational(rng, 0, 5, 2)) for name in rng.choices("abcd", k=4)]
            arbiter.hear(seal_notes(keys, notes))
            plain.notes.extend(notes)
            for reading in sorted([rng.randint(0, 5) for _ in range(2)]):
                self.assertEqual(laid_open(arbiter.tick((reading, 1))), laid_open(plain.tick((reading, 1))))


if __name__ == "__main__":
    unittest.main()
