"""Points 18 to 21, and the interface's notes.py."""

import copy
import random
import unittest
from fractions import Fraction

from clockverdict.errors import BadNote
from clockverdict.nets import Net
from clockverdict.notes import (clock_of, double_tags, exchange_notes, exchanges_of, is_note, lost_tags, messages_of,
                                offset_span, plain_offset, reading_of, readings_of, require_sound, round_trip)
from tests.covering import some_span
from tests.noting import FAULTY, plain_fault, sample_net, sound_notes
from tests.support import (BIG, ODD_VALUES, caught, check_judge, fraction, plain_rational, rat, some_rational, spoiled,
                           unchanged)

LETTERS = "abcdefghijklmnopqrstuvwxyz"


def plain_name(value):
    return (type(value) is str and 1 <= len(value) <= 8 and value[0] in LETTERS
            and all([sign in LETTERS + "0123456789" for sign in value]))


def plain_tag(value):
    return type(value) is int and 1 <= value <= 9999


def plain_note(value):
    """Point 18, written apart from the program."""
    forms = {"sent": [plain_tag, plain_name, plain_rational, plain_name],
             "got": [plain_tag, plain_name, plain_rational],
             "mark": [plain_name, plain_rational]}
    if type(value) is not tuple or not value or type(value[0]) is not str or value[0] not in forms:
        return False
    parts = forms[value[0]]
    return len(value) == len(parts) + 1 and all([right(part) for right, part in zip(parts, value[1:])])


GOOD = [("sent", 1, "a", (0, 1), "b"), ("sent", 9999, "abcdefgh", (-7, 3), "z0"), ("sent", 5, "a", (1, 1), "a"),
        ("got", 1, "a", (0, 1)), ("got", 9999, "z9", (5, 2)), ("mark", "a", (0, 1)), ("mark", "clock7", (-1, 9))]


class NoteTest(unittest.TestCase):
    def test_good_notes(self):
        for value in GOOD:
            self.assertIs(is_note(value), True)
            self.assertTrue(plain_note(value))

    def test_one_thing_wrong(self):
        for value in GOOD:
            counts = check_judge(self, is_note, plain_note, list(spoiled(value)))
            self.assertGreater(counts[False], 80)

    def test_odd_values(self):
        counts = check_judge(self, is_note, plain_note, ODD_VALUES)
        self.assertEqual(counts[True], 0)

    def test_edges(self):
        for value, wanted in [
            (("sent", 0, "a", (0, 1), "b"), False), (("sent", 10000, "a", (0, 1), "b"), False),
            (("sent", -1, "a", (0, 1), "b"), False), (("sent", True, "a", (0, 1), "b"), False),
            (("got", True, "a", (0, 1)), False), (("got", 0, "a", (0, 1)), False), (("got", 10000, "a", (0, 1)), False),
            (("got", 1, "A", (0, 1)), False), (("got", 1, "a", (0, 2)), False), (("got", 1, "a", (True, 1)), False),
            (("sent", 1, "a", (0, 1), ""), False), (("sent", 1, "", (0, 1), "b"), False),
            (("sent", 1, "a", (0, 1), "abcdefghi"), False), (("sent", 1, "a", (0, 1)), False),
            (("got", 1, "a", (0, 1), "b"), False), (("mark", 1, "a", (0, 1)), False), (("got", "a", (0, 1)), False),
            (("mark", "a", (0, 1), "b"), False), (("Mark", "a", (0, 1)), False), (("mark", "a", 0), False),
            (("mark", "a", (0, 1)) * 2, False), (("mark",), False), (("", "a", (0, 1)), False),
            (["mark", "a", (0, 1)], False), (("mark", "a", [0, 1]), False), ((["mark"], "a", (0, 1)), False),
            (({}, 1, "a", (0, 1)), False), ((None, 1, "a", (0, 1), "b"), False), (("mark", ["a"], (0, 1)), False),
            (("mark", "a", (10 ** 12, 1)), True), (("mark", "a", (1, 10 ** 40)), True), (("sent", BIG, "a", (0, 1), "b"),
                                                                                        False),
            (("mark", "a", None), False), (("got", None, "a", (0, 1)), False), (("got", "1", "a", (0, 1)), False),
        ]:
            self.assertEqual(plain_note(value), wanted, value)
            self.assertIs(is_note(value), wanted, value)

    def test_parts(self):
        for note, clock, reading in [(("sent", 1, "a", (3, 2), "b"), "a", (3, 2)), (("got", 1, "b", (4, 1)), "b", (4, 1)),
                                     (("mark", "c", (-5, 1)), "c", (-5, 1))]:
            self.assertEqual(clock_of(note), clock)
            self.assertEqual(reading_of(note), reading)


class SoundTest(unittest.TestCase):
    def test_sound_lists(self):
        rng = random.Random(21)
        net = sample_net()
        self.assertIsNone(require_sound(net, []))
        self.assertIsNone(require_sound(Net(), []))
        for _ in range(200):
            notes = sound_notes(rng, net, rng.randint(0, 16))
            self.assertIsNone(plain_fault(net, notes))
            self.assertIsNone(unchanged(self, lambda told: require_sound(net, told), notes))

    def test_the_faults(self):
        net = sample_net()
        for notes, wanted in FAULTY:
            self.assertEqual(plain_fault(net, notes), wanted)
            error = caught(self, BadNote, lambda told: require_sound(net, told), notes)
            self.assertEqual((error.place, error.reason), wanted, notes)
        self.assertEqual({reason for notes, (place, reason) in FAULTY}, {"clock", "link", "tag", "goal"})

    def test_a_net_without_clocks(self):
        error = caught(self, BadNote, lambda told: require_sound(Net(), told), [("mark", "a", (0, 1))])
        self.assertEqual((error.place, error.reason), (1, "clock"))

    def test_sound_lists_with_faults_put_in(self):
        rng = random.Random(22)
        net = sample_net()
        reasons = {"clock": 0, "link": 0, "tag": 0, "goal": 0}
        wrong = [("mark", "x", (0, 1)), ("sent", 3, "a", (0, 1), "d"), ("sent", 3, "b", (0, 1), "a"),
                 ("got", 3, "a", (0, 1)), ("got", 3, "b", (0, 1)), ("got", 3, "d", (0, 1)), ("sent", 3, "q", (0, 1), "d")]
        for _ in range(1500):
            notes = sound_notes(rng, net, rng.randint(0, 8))
            for _ in range(rng.randint(1, 3)):
                notes.insert(rng.randint(0, len(notes)), rng.choice(wrong))
            wanted = plain_fault(net, notes)
            if wanted is None:
                require_sound(net, notes)
                continue
            error = caught(self, BadNote, lambda told: require_sound(net, told), notes)
            self.assertEqual((error.place, error.reason), wanted, notes)
            reasons[error.reason] += 1
        self.assertGreater(min(reasons.values()), 15)


class ReadingsTest(unittest.TestCase):
    def test_by_hand(self):
        notes = [("mark", "a", (5, 2)), ("sent", 1, "a", (-1, 3), "b"), ("mark", "b", (0, 1)), ("mark", "a", (5, 2)),
                 ("got", 1, "b", (2, 1)), ("mark", "a", (7, 3)), ("mark", "a", (-1, 2)), ("mark", "a", (5, 2))]
        self.assertEqual(unchanged(self, readings_of, notes, "a"),
                         [((-1, 2), 7), ((-1, 3), 2), ((7, 3), 6), ((5, 2), 1), ((5, 2), 4), ((5, 2), 8)])
        self.assertEqual(readings_of(notes, "b"), [((0, 1), 3), ((2, 1), 5)])
        self.assertEqual(readings_of(notes, "c"), [])
        self.assertEqual(readings_of(notes, "no name"), [])
        self.assertEqual(readings_of([], "a"), [])

    def test_many(self):
        rng = random.Random(23)
        net = sample_net()
        for _ in range(100):
            notes = sound_notes(rng, net, 16)
            for clock in ["a", "b", "c", "d", "e"]:
                rows = [(note[-2] if note[0] == "sent" else note[-1], at + 1) for at, note in enumerate(notes)
                        if (note[1] if note[0] == "mark" else note[2]) == clock]
                wanted = sorted(rows, key=lambda row: (fraction(row[0]), row[1]))
                self.assertEqual(readings_of(notes, clock), wanted)


class MessagesTest(unittest.TestCase):
    NOTES = [("sent", 7, "a", (0, 1), "b"), ("mark", "a", (0, 1)), ("sent", 3, "b", (0, 1), "a"),
             ("got", 3, "a", (9, 1)), ("got", 7, "b", (8, 1)), ("sent", 5, "a", (1, 1), "b"), ("got", 3, "a", (2, 1)),
             ("sent", 1, "a", (1, 1), "c"), ("got", 3, "a", (2, 1))]

    def test_by_hand(self):
        self.assertEqual(unchanged(self, messages_of, self.NOTES), [(3, 4), (1, 5), (3, 7), (3, 9)])
        self.assertEqual(unchanged(self, lost_tags, self.NOTES), [1, 5])
        self.assertEqual(unchanged(self, double_tags, self.NOTES), [3])
        for call in (messages_of, lost_tags, double_tags):
            self.assertEqual(unchanged(self, call, []), [])
            self.assertEqual(call([("mark", "a", (0, 1))]), [])

    def test_many(self):
        rng = random.Random(24)
        net = sample_net()
        seen = [0, 0]
        for _ in range(200):
            notes = sound_notes(rng, net, 16)
            sent = {note[1]: at + 1 for at, note in enumerate(notes) if note[0] == "sent"}
            got = [note[1] for note in notes if note[0] == "got"]
            wanted = [(sent[note[1]], at + 1) for at, note in enumerate(notes) if note[0] == "got"]
            self.assertEqual(messages_of(notes), wanted)
            self.assertEqual(lost_tags(notes), sorted(set(sent) - set(got)))
            doubles = [tag for tag in sorted(sent) if len([one for one in got if one == tag]) > 1]
            self.assertEqual(double_tags(notes), doubles)
            seen = [seen[0] + len(lost_tags(notes)), seen[1] + len(doubles)]
        self.assertGreater(min(seen), 50)


class ExchangeTest(unittest.TestCase):
    def test_by_hand(self):
        stamps = ((0, 1), (5, 1), (6, 1), (3, 1))
        self.assertEqual(round_trip(stamps), (2, 1))
        self.assertEqual(plain_offset(stamps), (4, 1))
        span = ((0, 1), (2, 1))
        self.assertEqual(offset_span(stamps, span, span), ((3, 1), (5, 1)))
        for forth, back, wanted in [
            ((None, None), (None, None), (None, None)), ((None, (2, 1)), (None, None), ((3, 1), None)),
            (((1, 1), None), (None, None), (None, (4, 1))), ((None, None), ((1, 1), None), ((4, 1), None)),
            ((None, None), (None, (1, 1)), (None, (4, 1))), (((1, 1), (1, 1)), ((1, 1), (1, 1)), ((4, 1), (4, 1))),
            (((2, 1), (2, 1)), ((1, 1), (1, 1)), None), (((3, 1), None), ((0, 1), None), None),
            (((2, 1), None), ((0, 1), None), ((3, 1), (3, 1))), (((-9, 1), (-8, 1)), (None, None), ((13, 1), (14, 1))),
            ((None, None), ((-9, 1), (-8, 1)), ((-6, 1), (-5, 1))),
        ]:
            self.assertEqual(offset_span(stamps, forth, back), wanted, (forth, back))

    def test_many(self):
        rng = random.Random(25)
        counts = {True: 0, False: 0}
        for _ in range(300):
            stamps = tuple([some_rational(rng) for _ in range(4)])
            a, b, c, d = [fraction(stamp) for stamp in stamps]
            self.assertEqual(round_trip(stamps), rat((d - a) - (c - b)))
            self.assertEqual(plain_offset(stamps), rat(((b - a) + (c - d)) / 2))
            forth, back = some_span(rng, -20, 20), some_span(rng, -20, 20)
            lows = [b - a - fraction(forth[1])] if forth[1] is not None else []
            lows += [fraction(back[0]) - (d - c)] if back[0] is not None else []
            highs = [b - a - fraction(forth[0])] if forth[0] is not None else []
            highs += [fraction(back[1]) - (d - c)] if back[1] is not None else []
            told = offset_span(stamps, forth, back)
            counts[told is None] += 1
            if lows and highs and max(lows) > min(highs):
                self.assertIsNone(told)
            else:
                self.assertEqual(told, (rat(max(lows)) if lows else None, rat(min(highs)) if highs else None))
        self.assertGreater(min(counts.values()), 30)

    def test_the_plain_offset_is_near(self):
        rng = random.Random(26)
        for _ in range(100):
            low = Fraction(rng.randint(0, 6), 2)
            width = Fraction(rng.randint(0, 8), 3)
            offset, a, wait = [fraction(some_rational(rng, 0, 9)) for _ in range(3)]
            first, second = [low + width * Fraction(rng.randint(0, 4), 4) for _ in range(2)]
            b = a + first + offset
            c = b + wait
            stamps = (rat(a), rat(b), rat(c), rat(c - offset + second))
            span = (rat(low), rat(low + width))
            ends = offset_span(stamps, span, span)
            self.assertTrue(fraction(ends[0]) <= offset <= fraction(ends[1]))
            self.assertLessEqual(abs(fraction(plain_offset(stamps)) - offset), width / 2)
            self.assertEqual(fraction(round_trip(stamps)), first + second)

    def test_the_four_notes(self):
        stamps = ((0, 1), (5, 2), (6, 1), (3, 1))
        wanted = [("sent", 1, "x", (0, 1), "y"), ("got", 1, "y", (5, 2)), ("sent", 2, "y", (6, 1), "x"),
                  ("got", 2, "x", (3, 1))]
        self.assertEqual(unchanged(self, exchange_notes, stamps, "x", "y"), wanted)
        self.assertEqual(exchange_notes(stamps, "x", "y", tag=1), wanted)
        notes = exchange_notes(stamps, "x", "y", tag=9998)
        self.assertEqual([note[1] for note in notes], [9998, 9998, 9999, 9999])
        self.assertEqual([note[2:] for note in notes], [note[2:] for note in wanted])
        self.assertEqual(exchanges_of(notes, "x", "y"), [stamps])
        self.assertEqual(exchanges_of(notes, "y", "x"), [])


def plain_exchanges(notes, client, server):
    """The entry of exchanges_of, written apart from the program."""
    sent = {note[1]: note for note in notes if note[0] == "sent"}
    found = []
    for note in notes:
        if note[0] != "got" or note[2] != client or sent[note[1]][2] != server:
            continue
        reply = sent[note[1]]
        requests = [(fraction(other[3]), at) for at, other in enumerate(notes)
                    if other[0] == "got" and other[2] == server and sent[other[1]][2] == client
                    and fraction(other[3]) <= fraction(reply[3])]
        if requests:
            request = notes[max(requests)[1]]
            found.append((sent[request[1]][3], request[3], reply[3], note[3]))
    return found


class ExchangesTest(unittest.TestCase):
    def check(self, notes, wanted, client="a", server="b"):
        self.assertEqual(plain_exchanges(notes, client, server), wanted)
        self.assertEqual(unchanged(self, exchanges_of, notes, client, server), wanted)

    def test_readings_decide_and_not_places(self):
        reply, got = ("sent", 2, "b", (6, 1), "a"), ("got", 2, "a", (3, 1))
        ask, asked = ("sent", 1, "a", (0, 1), "b"), ("got", 1, "b", (5, 1))
        wanted = [((0, 1), (5, 1), (6, 1), (3, 1))]
        self.check([ask, asked, reply, got], wanted)
        self.check([reply, got, ask, asked], wanted)
        self.check([reply, ask, got, asked], wanted)
        self.check([ask, ("got", 1, "b", (6, 1)), reply, got], [((0, 1), (6, 1), (6, 1), (3, 1))])
        self.check([ask, ("got", 1, "b", (13, 2)), reply, got], [])
        self.check([reply, got], [])
        self.check([ask, asked, reply], [])
        self.check([ask, reply, got], [])
        self.check([], [])

    def test_the_greatest_reading_and_then_the_greatest_place(self):
        asks = [("sent", 1, "a", (0, 1), "b"), ("sent", 2, "a", (1, 1), "b"), ("sent", 3, "a", (2, 1), "b")]
        end = [("sent", 9, "b", (6, 1), "a"), ("got", 9, "a", (7, 1))]
        for readings, wanted in [([1, 2, 3], 2), ([3, 2, 1], 0), ([1, 5, 7], 1), ([5, 5, 1], 1), ([5, 5, 5], 2),
                                 ([6, 5, 6], 2), ([6, 6, 7], 1), ([6, 7, 7], 0)]:
            gots = [("got", at + 1, "b", (reading, 1)) for at, reading in enumerate(readings)]
            stamps = ((wanted, 1), (readings[wanted], 1), (6, 1), (7, 1))
            self.check(asks + gots + end, [stamps])
            self.check(end[:1] + asks + gots + end[1:], [stamps])
        # Of equal readings the place of the got note decides, not that of the sent note.
        gots = [("got", 2, "b", (5, 1)), ("got", 1, "b", (5, 1))]
        self.check(asks + gots + end, [((0, 1), (5, 1), (6, 1), (7, 1))])

    def test_replies_twice_requests_twice_and_one_request_for_several_replies(self):
        notes = [("sent", 1, "a", (0, 1), "b"), ("got", 1, "b", (2, 1)), ("got", 1, "b", (4, 1)),
                 ("sent", 2, "b", (3, 1), "a"), ("sent", 3, "b", (5, 1), "a"), ("got", 3, "a", (8, 1)),
                 ("got", 2, "a", (6, 1)), ("got", 2, "a", (7, 1))]
        self.check(notes, [((0, 1), (4, 1), (5, 1), (8, 1)), ((0, 1), (2, 1), (3, 1), (6, 1)),
                           ((0, 1), (2, 1), (3, 1), (7, 1))])

    def test_other_clocks_do_not_count(self):
        notes = [("sent", 1, "c", (0, 1), "a"), ("got", 1, "a", (1, 1)), ("sent", 2, "a", (2, 1), "b"),
                 ("got", 2, "b", (3, 1)), ("sent", 3, "b", (4, 1), "a"), ("got", 3, "a", (5, 1)), ("mark", "b", (4, 1))]
        self.check(notes, [((2, 1), (3, 1), (4, 1), (5, 1))])
        self.check(notes, [], "b", "a")
        self.check(notes, [], "c", "a")
        self.check(notes, [], "a", "c")
        for clock in ["a", "b", "c", "x"]:
            self.check(notes, [], clock, clock)
        self.check(notes, [], "x", "y")

    def test_many(self):
        rng = random.Random(27)
        net = Net()
        for name in ("a", "b", "c"):
            net.add_clock(name)
        for start, goal in [("a", "b"), ("b", "a"), ("c", "a"), ("a", "c")]:
            net.add_link(start, goal)
        many = 0
        for _ in range(400):
            notes = sound_notes(rng, net, 16)
            for client, server in [("a", "b"), ("b", "a"), ("a", "c"), ("a", "a")]:
                wanted = plain_exchanges(notes, client, server)
                self.assertEqual(exchanges_of(notes, client, server), wanted)
                many += len(wanted)
        self.assertGreater(many, 300)


class KeptTest(unittest.TestCase):
    def test_results_are_the_callers(self):
        notes = copy.deepcopy(MessagesTest.NOTES)
        for call in (messages_of, lost_tags, double_tags, lambda told: readings_of(told, "a"),
                     lambda told: exchanges_of(told, "a", "b")):
            wanted = list(call(notes))
            call(notes).clear()
            self.assertEqual(call(notes), wanted)
        self.assertEqual(notes, MessagesTest.NOTES)


if __name__ == "__main__":
    unittest.main()
