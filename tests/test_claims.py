"""Points 22, 23 and 25, and the interface's claims.py."""

import random
import unittest

from clockverdict.claims import claims_of, is_claim, owners_of
from clockverdict.errors import BadNote
from clockverdict.nets import Net
from clockverdict.worlds import broken, liars_in
from tests.noting import FAULTY, plain_fault, sample_net, sound_notes
from tests.support import (BIG, ODD_VALUES, caught, check_judge, fraction, plain_rational, rat, some_rational, spoiled,
                           unchanged)
from tests.test_notes import plain_name


def plain_claim(value):
    """The form of point 23, written apart from the program."""
    if type(value) is not tuple or len(value) != 4:
        return False
    a, b, w, owner = value
    if type(a) is not int or type(b) is not int or min(a, b) < 0:
        return False
    return plain_rational(w) and type(owner) is str and (owner == "" or plain_name(owner))


def plain_claims(net, notes):
    """Point 25, written apart from the program."""
    claims = []
    for clock in sorted(net.names()):
        rows = []
        for at, note in enumerate(notes):
            if note[1 if note[0] == "mark" else 2] == clock:
                rows.append((fraction(note[2 if note[0] == "mark" else 3]), at + 1))
        rows.sort()
        error = net.error_of(clock)
        slow, fast = [fraction(rate) for rate in net.rates_of(clock)]
        if error is not None:
            for r, p in rows:
                claims.append((0, p, rat(r + fraction(error)), clock))
                claims.append((p, 0, rat(fraction(error) - r), clock))
        for (r, p), (s, q) in zip(rows, rows[1:]):
            claims.append((p, q, rat((s - r) / slow), clock))
            claims.append((q, p, rat(-(s - r) / fast), clock))
    for at, note in enumerate(notes):
        if note[0] == "got":
            sent = [old for old in notes if old[0] == "sent" and old[1] == note[1]][0]
            low, high = net.delay_of(sent[2], sent[4])
            if high is not None:
                claims.append((notes.index(sent) + 1, at + 1, high, ""))
            claims.append((at + 1, notes.index(sent) + 1, rat(-fraction(low)), ""))
    return claims


GOOD = [(0, 1, (11, 1), "a"), (0, 0, (0, 1), ""), (5, 5, (-7, 2), "clock1"), (10 ** 12, 3, (1, 3), ""),
        (3, 10 ** 30, (1, 3), "abcdefgh")]


class ClaimTest(unittest.TestCase):
    def test_good_claims(self):
        for value in GOOD:
            self.assertIs(is_claim(value), True)
            self.assertTrue(plain_claim(value))

    def test_one_thing_wrong(self):
        for value in GOOD:
            counts = check_judge(self, is_claim, plain_claim, list(spoiled(value)))
            self.assertGreater(counts[False], 80)
            self.assertGreater(counts[True], 0)

    def test_odd_values(self):
        self.assertEqual(check_judge(self, is_claim, plain_claim, ODD_VALUES)[True], 0)

    def test_edges(self):
        for value, wanted in [
            ((-1, 0, (0, 1), ""), False), ((0, -1, (0, 1), ""), False), ((BIG, BIG, (BIG, 1), ""), True),
            ((-BIG, 0, (0, 1), ""), False), ((True, 0, (0, 1), ""), False), ((0, False, (0, 1), ""), False),
            ((0, 1, (0, 1), "A"), False), ((0, 1, (0, 1), " "), False), ((0, 1, (0, 1), None), False),
            ((0, 1, (0, 1), "abcdefghi"), False), ((0, 1, (0, 1), []), False), ((0, 1, (0, 1), ()), False),
            ((0, 1, (2, 4), ""), False), ((0, 1, (1, 0), ""), False), ((0, 1, 0, ""), False), ((0, 1, None, ""), False),
            ((0, 1, (True, 1), ""), False), ((0, 1, [0, 1], ""), False), ([0, 1, (0, 1), ""], False),
            ((0, 1, (0, 1)), False), ((0, 1, (0, 1), "", ""), False), ((), False), ((None, 1, (0, 1), ""), False),
            (("0", 1, (0, 1), ""), False), (((0,), 1, (0, 1), ""), False),
        ]:
            self.assertEqual(plain_claim(value), wanted, value)
            self.assertIs(is_claim(value), wanted, value)


class ClaimsOfTest(unittest.TestCase):
    def check(self, net, notes, wanted):
        self.assertEqual(plain_claims(net, notes), wanted)
        told = unchanged(self, lambda given: claims_of(net, given), notes)
        self.assertEqual(told, wanted)
        self.assertTrue(all([is_claim(claim) for claim in told]))

    def test_one_clock(self):
        net = sample_net()
        self.check(net, [], [])
        self.check(net, [("mark", "c", (3, 1))], [])
        self.check(net, [("mark", "a", (3, 1))], [(0, 1, (4, 1), "a"), (1, 0, (-2, 1), "a")])
        self.check(net, [("mark", "d", (3, 1))], [(0, 1, (3, 1), "d"), (1, 0, (-3, 1), "d")])
        self.check(net, [("mark", "c", (3, 1)), ("mark", "c", (5, 1))], [(1, 2, (4, 1), "c"), (2, 1, (-2, 1), "c")])

    def test_readings_and_places(self):
        net = sample_net()
        self.check(net, [("mark", "b", (6, 1)), ("mark", "b", (3, 1)), ("mark", "b", (6, 1))], [
            (0, 2, (9, 2), "b"), (2, 0, (-3, 2), "b"), (0, 1, (15, 2), "b"), (1, 0, (-9, 2), "b"),
            (0, 3, (15, 2), "b"), (3, 0, (-9, 2), "b"),
            (2, 1, (6, 1), "b"), (1, 2, (-3, 2), "b"), (1, 3, (0, 1), "b"), (3, 1, (0, 1), "b")])

    def test_clocks_by_name_and_messages_by_place(self):
        notes = [("mark", "d", (6, 1)), ("sent", 2, "c", (1, 1), "a"), ("sent", 1, "a", (0, 1), "b"),
                 ("got", 1, "b", (9, 1)), ("got", 2, "a", (3, 1)), ("got", 1, "b", (8, 1)), ("sent", 3, "b", (8, 1), "a"),
                 ("got", 3, "a", (7, 1)), ("sent", 4, "a", (7, 1), "c")]
        self.check(sample_net(), notes, [
            (0, 3, (1, 1), "a"), (3, 0, (1, 1), "a"), (0, 5, (4, 1), "a"), (5, 0, (-2, 1), "a"),
            (0, 8, (8, 1), "a"), (8, 0, (-6, 1), "a"), (0, 9, (8, 1), "a"), (9, 0, (-6, 1), "a"),
            (3, 5, (3, 1), "a"), (5, 3, (-3, 1), "a"), (5, 8, (4, 1), "a"), (8, 5, (-4, 1), "a"),
            (8, 9, (0, 1), "a"), (9, 8, (0, 1), "a"),
            (0, 6, (19, 2), "b"), (6, 0, (-13, 2), "b"), (0, 7, (19, 2), "b"), (7, 0, (-13, 2), "b"),
            (0, 4, (21, 2), "b"), (4, 0, (-15, 2), "b"),
            (6, 7, (0, 1), "b"), (7, 6, (0, 1), "b"), (7, 4, (2, 1), "b"), (4, 7, (-1, 2), "b"),
            (0, 1, (6, 1), "d"), (1, 0, (-6, 1), "d"),
            (3, 4, (5, 2), ""), (4, 3, (-1, 1), ""), (2, 5, (4, 1), ""), (5, 2, (0, 1), ""),
            (3, 6, (5, 2), ""), (6, 3, (-1, 1), ""), (8, 7, (-1, 2), "")])

    def test_many(self):
        rng = random.Random(31)
        for _ in range(150):
            net = Net()
            for name in rng.sample(["a", "b", "c", "d"], 4):
                slow = some_rational(rng, 1, 4, 3)
                fast = rat(fraction(slow) + fraction(some_rational(rng, 0, 3)))
                net.add_clock(name, slow=slow, fast=fast, error=rng.choice([None, some_rational(rng, 0, 9)]))
            for start in net.names():
                for goal in net.names():
                    if start != goal and rng.random() < 0.7:
                        low = some_rational(rng, 0, 4)
                        high = rng.choice([None, rat(fraction(low) + fraction(some_rational(rng, 0, 4)))])
                        net.add_link(start, goal, low=low, high=high)
            notes = sound_notes(rng, net, rng.randint(0, 16)) if net.links() else []
            self.check(net, notes, plain_claims(net, notes))

    def test_unsound_notes(self):
        net = sample_net()
        for notes, wanted in FAULTY:
            error = caught(self, BadNote, lambda told: claims_of(net, told), notes)
            self.assertEqual((error.place, error.reason), wanted)
            self.assertEqual(plain_fault(net, notes), wanted)

    def test_a_world_breaks_the_claims_of_what_is_wrong_in_it(self):
        notes = [("sent", 1, "a", (5, 1), "b"), ("got", 1, "b", (7, 1)), ("mark", "b", (9, 1))]
        claims = claims_of(sample_net(), notes)
        for world, wanted in [([0, 5, 6, 8], []), ([0, 6, 7, 8], []), ([0, 7, 8, 9], ["a"]), ([0, 5, 10, 11], ["", "b"]),
                              ([0, 5, 6, 11], ["b"]), ([0, 5, 5, 8], ["", "b"]), ([0, 5, 6, 6], ["b"])]:
            told = [(t, 1) for t in world]
            self.assertEqual(liars_in(claims, told), wanted, world)
            self.assertEqual(broken(claims, told) == [], wanted == [])

    def test_the_result_is_the_callers_and_the_net_stays(self):
        net, notes = sample_net(), [("mark", "a", (3, 1))]
        claims = claims_of(net, notes)
        claims.clear()
        notes.append(("mark", "a", (4, 1)))
        self.assertEqual(len(claims_of(net, notes)), 6)
        self.assertEqual(net.names(), ["a", "b", "c", "d"])


class OwnersTest(unittest.TestCase):
    def test_owners(self):
        for owners, wanted in [([], []), ([""], []), (["b", "", "a", "b", ""], ["a", "b"]), (["z", "a1", "a"], ["a", "a1",
                                                                                                             "z"])]:
            claims = [(0, 1, (1, 1), owner) for owner in owners]
            self.assertEqual(unchanged(self, owners_of, claims), wanted)


if __name__ == "__main__":
    unittest.main()
