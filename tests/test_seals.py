"""Points 56 to 59, and the interface's seals.py."""

import random
import unittest
from math import gcd

from clockverdict.errors import BadCells, RefusedEntry, UnknownName
from clockverdict.notes import is_note
from clockverdict.seals import (MODULUS, Gate, cells_of, is_sealed, note_of, open_entries, seal_notes, seal_of,
                                sealed_entry)
from tests.support import BIG, ODD_VALUES, boxes, caught, check_judge, rat, spoiled, unchanged

M = 2 ** 31 - 1

MARK = ("mark", "ab", (-3, 2))
SENT = ("sent", 7, "a", (5, 1), "b2")
GOT = ("got", 9999, "zzzzzzz9", (0, 1))


# Points 56 to 58, written apart from the program.

def plain_seal(key, counter, cells):
    """By the powers of the key: the counter, the cells and their number as the digits of a number with this base."""
    digits = (counter,) + tuple(cells) + (len(cells),)
    return sum([digit * pow(key, power, M) for power, digit in enumerate(digits[::-1])]) % M


def plain_name(value):
    return (type(value) is str and 1 <= len(value) <= 8 and value[0] in "abcdefghijklmnopqrstuvwxyz"
            and all([sign in "abcdefghijklmnopqrstuvwxyz0123456789" for sign in value]))


def plain_cell(value):
    return type(value) is int and 0 <= value < M


def plain_sealed(key, value):
    if type(value) is not tuple or len(value) != 4 or not plain_name(value[0]):
        return False
    if type(value[1]) is not int or not 1 <= value[1] <= 999 or type(value[2]) is not tuple:
        return False
    if not all([plain_cell(cell) for cell in value[2] + (value[3],)]):
        return False
    return value[3] == plain_seal(key, value[1], value[2])


def name_cells(name):
    return (len(name),) + tuple(name.encode("ascii"))


def plain_cells(note):
    kind = note[0]
    n, d = note[-2] if kind == "sent" else note[-1]
    reading = (abs(n), int(n < 0), d)
    if kind == "mark":
        return (3,) + name_cells(note[1]) + reading
    if kind == "got":
        return (2, note[1]) + name_cells(note[2]) + reading
    return (1, note[1]) + name_cells(note[2]) + reading + name_cells(note[4])


def some_name(rng):
    letters = "abcdefghijklmnopqrstuvwxyz"
    return rng.choice(letters) + "".join(rng.choices(letters + "0123456789", k=rng.randint(0, 7)))


def some_note(rng):
    reading = rng.choice([rat(rng.randint(-9, 9), rng.randint(1, 9)), (0, 1), (999999999, 1), (-999999999, 1),
                          (999999998, 999999999), (-1, 999999999), rat(rng.randint(-10 ** 9 + 1, 10 ** 9 - 1), rng.randint(1, 10 ** 9 - 1))])
    tag = rng.choice([1, 9999, rng.randint(1, 9999)])
    kind = rng.choice(["sent", "got", "mark"])
    if kind == "mark":
        return ("mark", some_name(rng), reading)
    note = (kind, tag, some_name(rng), reading)
    return note if kind == "got" else note + (rng.choice([some_name(rng), note[2]]),)


def some_cells(rng, many):
    return tuple([rng.choice([0, 1, M - 1, rng.randrange(M)]) for _ in range(many)])


KEYS = [2, 3, 10, M - 1, M - 2, 65537, 123456789]


class SealTest(unittest.TestCase):
    def test_the_modulus(self):
        self.assertEqual(MODULUS, 2147483647)
        self.assertIs(type(MODULUS), int)

    def test_the_example(self):
        self.assertEqual(seal_of(10, 1, (2, 3)), 1232)

    def test_no_cell_and_many_cells_and_the_bounds(self):
        rng = random.Random(56)
        self.assertEqual(seal_of(2, 1, ()), 2)
        self.assertEqual(seal_of(10, 999, ()), 9990)
        self.assertEqual(seal_of(M - 1, 999, ()), M - 999)
        for key in KEYS:
            for counter in (1, 2, 998, 999):
                for many in (0, 1, 2, 3, 30, 60):
                    cells = some_cells(rng, many)
                    seal = seal_of(key, counter, cells)
                    self.assertEqual(seal, plain_seal(key, counter, cells))
                    self.assertTrue(0 <= seal < M)
                    self.assertEqual(sealed_entry(key, "ab", counter, cells), ("ab", counter, cells, seal))
                    self.assertIs(is_sealed(key, ("ab", counter, cells, seal)), True)

    def test_one_change_breaks_a_seal(self):
        rng = random.Random(57)
        for key in KEYS:
            for many in (1, 2, 5, 60):
                cells = some_cells(rng, many)
                counter = rng.randint(1, 999)
                sender, _, _, seal = sealed_entry(key, "s", counter, cells)
                for other in {1, 999, counter % 999 + 1, rng.randint(1, 999)} - {counter}:
                    self.assertIs(is_sealed(key, (sender, other, cells, seal)), False)
                for other in {0, M - 1, (seal + 1) % M, (seal - 1) % M, rng.randrange(M)} - {seal}:
                    self.assertIs(is_sealed(key, (sender, counter, cells, other)), False)
                for at in range(many):
                    for other in {0, 1, M - 1, (cells[at] + 1) % M, rng.randrange(M)} - {cells[at]}:
                        changed = cells[:at] + (other,) + cells[at + 1:]
                        self.assertIs(is_sealed(key, (sender, counter, changed, seal)), False)
                    if at and cells[at] != cells[at - 1]:
                        changed = cells[:at - 1] + (cells[at], cells[at - 1]) + cells[at + 1:]
                        self.assertIs(is_sealed(key, (sender, counter, changed, seal)), False)

    def test_another_name_keeps_the_seal_and_another_key_does_not(self):
        entry = sealed_entry(10, "a", 1, (2, 3))
        self.assertIs(is_sealed(10, ("b",) + entry[1:]), True)
        self.assertIs(is_sealed(11, entry), False)

    def test_the_judge_over_values_with_one_thing_wrong(self):
        values = list(ODD_VALUES)
        for entry in [sealed_entry(10, "a", 1, ()), sealed_entry(10, "abc12345", 999, (0, M - 1, 5)),
                      sealed_entry(10, "a", 1, (1, 1))]:
            values.append(entry)
            values.extend(spoiled(entry))
        sealed = lambda sender, counter, cells: (sender, counter, cells, plain_seal(10, counter, cells))
        values += [sealed(name, 1, (2, 3)) for name in ("", "A", "1a", "abcdefghi", "a_", "a b", "abcdefgh", 5, None, ("a",))]
        values += [sealed("a", counter, (2, 3)) for counter in (0, -1, 1000, BIG, 1, 999)]
        values += [sealed("a", 1, cells) for cells in ((M,), (-1,), (M - 1,), (0,), (BIG,), (5, M + 5), (2, -M))]
        values += [("a", True, (2, 3), 1232), ("a", 1, (True, 3), plain_seal(10, 1, (1, 3))),
                   ("a", 1, (2, False), plain_seal(10, 1, (2, 0))), ("a", 1, [2, 3], 1232), ["a", 1, (2, 3), 1232],
                   ("a", 1, (2, 3), 1232 + M), ("a", 1, (2, 3), 1232 - M), ("a", 1, (2, 3), (1232,)),
                   ("a", 1, (2, (3,)), 1232), ("a", 1, (2, "3"), 1232), ("a", 1, (2, None), 1232), ("a", 1, 2, 1232),
                   ("a", 1, (2, 3)), ("a", 1, (2, 3), 1232, 0), ("a", (1,), (2, 3), 1232), ("a", 1, {2: 3}, 1232)]
        counts = check_judge(self, lambda value: is_sealed(10, value), lambda value: plain_sealed(10, value), values)
        self.assertGreater(min(counts.values()), 8)

    def test_seals_of_zero_and_one_as_booleans(self):
        # With this key the seal of (0,) comes to 0 or 1 for some counters; a boolean is no seal even there.
        found = [(key, counter) for key in range(2, 60) for counter in range(1, 1000)
                 if plain_seal(key, counter, (M - counter * key % M,)) == 1]
        key, counter = found[0] if found else (2, 1)
        entry = sealed_entry(key, "a", counter, (M - counter * key % M,))
        self.assertEqual(entry[3], 1)
        self.assertIs(is_sealed(key, entry), True)
        self.assertIs(is_sealed(key, entry[:3] + (True,)), False)

    def test_the_judge_over_more_than_60_cells(self):
        rng = random.Random(571)
        for many in (61, 500, 3000):
            cells = some_cells(rng, many)
            entry = sealed_entry(12345, "a", 7, cells)
            self.assertIs(is_sealed(12345, entry), True)
            self.assertIs(is_sealed(12345, ("a", 7, cells[:-1] + ((cells[-1] + 1) % M,), entry[3])), False)
            self.assertIs(is_sealed(12345, ("a", 7, cells[:-1] + (True,), plain_seal(12345, 7, cells[:-1] + (1,)))), False)


class CellsTest(unittest.TestCase):
    def test_the_example_and_each_kind(self):
        self.assertEqual(cells_of(MARK), (3, 2, 97, 98, 3, 1, 2))
        self.assertEqual(cells_of(SENT), (1, 7, 1, 97, 5, 0, 1, 2, 98, 50))
        self.assertEqual(cells_of(GOT), (2, 9999, 8) + (122,) * 7 + (57, 0, 0, 1))
        self.assertEqual(cells_of(("sent", 1, "a", (-1, 3), "a")), (1, 1, 1, 97, 1, 1, 3, 1, 97))

    def test_cells_and_notes_against_each_other(self):
        rng = random.Random(58)
        seen = {}
        for _ in range(600):
            note = some_note(rng)
            cells = unchanged(self, cells_of, note)
            self.assertEqual(cells, plain_cells(note))
            self.assertIs(type(cells), tuple)
            self.assertTrue(all([plain_cell(cell) for cell in cells]))
            self.assertEqual(seen.setdefault(cells, note), note)
            self.assertEqual(note_of(cells), note)
            self.assertTrue(is_note(note_of(cells)))

    def refused(self, *cells):
        error = caught(self, BadCells, note_of, cells)
        self.assertEqual(vars(error), {})

    def test_tuples_that_are_the_cells_of_no_note(self):
        self.refused()
        for cell in (0, 1, 2, 3, 4, 97, M - 1):
            self.refused(cell)
            self.refused(cell, cell)
        # The kind, the tag.
        self.refused(0, 1, 97, 0, 0, 1)
        self.refused(4, 1, 97, 0, 0, 1)
        self.refused(4, 1, 1, 97, 0, 0, 1)
        self.refused(2, 0, 1, 97, 0, 0, 1)
        self.refused(2, 10000, 1, 97, 0, 0, 1)
        self.refused(1, 0, 1, 97, 0, 0, 1, 1, 97)
        self.refused(1, 10000, 1, 97, 0, 0, 1, 1, 97)
        # The sign of zero, and a sign that is neither.
        self.refused(3, 1, 97, 0, 1, 1)
        self.refused(3, 1, 97, 5, 2, 1)
        self.refused(3, 1, 97, 0, 2, 1)
        self.refused(3, 1, 97, 5, M - 1, 1)
        # Fractions that are not in lowest terms, and a denominator of zero.
        for n, sign, d in [(2, 0, 4), (2, 1, 4), (0, 0, 2), (3, 0, 3), (0, 0, 0), (1, 0, 0), (5, 1, 0), (10, 0, 5)]:
            self.refused(3, 1, 97, n, sign, d)
            self.refused(2, 1, 1, 97, n, sign, d)
            self.refused(1, 1, 1, 97, n, sign, d, 1, 98)
        # Names of a wrong length, and wrong signs.
        self.refused(3, 0, 0, 0, 1)
        self.refused(3, 2, 97, 0, 0, 1)
        self.refused(3, 0, 97, 0, 0, 1)
        self.refused(3, 9, *[97] * 9, 0, 0, 1)
        self.refused(3, M - 1, 97, 0, 0, 1)
        for code in (0, 32, 47, 48, 57, 58, 64, 65, 90, 95, 96, 123, 126, 97 + 256, M - 1):
            self.refused(3, 1, code, 0, 0, 1)
        for code in (0, 32, 47, 58, 65, 95, 96, 123, 97 + 256, M - 1):
            self.refused(3, 2, 97, code, 0, 0, 1)
            self.refused(1, 1, 1, 97, 0, 0, 1, 2, 97, code)
        self.refused(1, 1, 1, 97, 0, 0, 1, 1, 48)
        self.refused(1, 1, 1, 97, 0, 0, 1, 0)
        self.refused(1, 1, 1, 97, 0, 0, 1, 9, *[97] * 9)

    def test_too_few_and_too_many_cells(self):
        for note in (MARK, SENT, GOT, ("sent", 1, "abcdefgh", (1, 2), "hgfedcba")):
            cells = cells_of(note)
            for many in range(len(cells)):
                self.refused(*cells[:many])
            for more in ((0,), (1,), (97,), (1, 97), (1, 98, 0), (M - 1,)):
                self.refused(*(cells + more))

    def test_numbers_of_ten_digits(self):
        for n, d in [(999999999, 1), (1, 999999999), (999999998, 999999999)]:
            self.assertEqual(note_of((3, 1, 97, n, 0, d)), ("mark", "a", (n, d)))
            self.assertEqual(note_of((3, 1, 97, n, 1, d)), ("mark", "a", (-n, d)))
        for n, d in [(1000000000, 1), (1, 1000000000), (M - 1, 1), (1, M - 1), (1000000000, 999999999),
                     (999999999, 1000000000)]:
            self.assertEqual(gcd(n, d), 1)
            for sign in (0, 1):
                self.refused(3, 1, 97, n, sign, d)
                self.refused(2, 1, 1, 97, n, sign, d)
                self.refused(1, 1, 1, 97, n, sign, d, 1, 98)

    def test_cells_with_one_of_them_changed(self):
        rng = random.Random(581)
        for _ in range(40):
            cells = cells_of(some_note(rng))
            for at in range(len(cells)):
                for other in (0, 1, 2, 3, 97, 48, cells[at] + 1, max(0, cells[at] - 1), M - 1):
                    changed = cells[:at] + (other,) + cells[at + 1:]
                    try:
                        note = note_of(changed)
                        self.assertTrue(is_note(note))
                        self.assertEqual(plain_cells(note), changed)
                    except BadCells:
                        self.assertNotEqual(changed, cells)


def refusal(case, call, *args):
    error = caught(case, RefusedEntry, call, *args)
    return (error.place, error.reason)


class SealNotesTest(unittest.TestCase):
    def test_the_counters_of_each_sender(self):
        keys = {"ab": 10, "a": 11, "zzzzzzz9": 12, "x": 13}
        entries = unchanged(self, seal_notes, keys, [MARK, SENT, MARK, GOT, MARK, SENT])
        self.assertEqual([entry[:2] for entry in entries],
                         [("ab", 1), ("a", 1), ("ab", 2), ("zzzzzzz9", 1), ("ab", 3), ("a", 2)])
        self.assertEqual([entry[2] for entry in entries],
                         [cells_of(note) for note in [MARK, SENT, MARK, GOT, MARK, SENT]])
        for entry in entries:
            self.assertIs(is_sealed(keys[entry[0]], entry), True)
            self.assertIs(type(entry), tuple)
        self.assertEqual(seal_notes({}, []), [])

    def test_notes_that_are_not_sound(self):
        notes = [GOT, ("sent", 3, "a", (1, 1), "a"), ("got", 5, "a", (0, 1)), ("sent", 3, "a", (1, 1), "q")]
        keys = {"a": 5, "zzzzzzz9": 6}
        entries = seal_notes(keys, notes)
        self.assertEqual(open_entries(keys, entries), notes)

    def test_the_first_note_without_a_key(self):
        for keys, notes, name in [({}, [MARK], "ab"), ({"ab": 5}, [MARK, SENT, GOT], "a"), ({"b2": 5}, [SENT], "a"),
                                  ({"ab": 5, "a": 6}, [MARK, SENT, GOT], "zzzzzzz9"), ({"a": 6}, [GOT, MARK], "zzzzzzz9")]:
            self.assertEqual(caught(self, UnknownName, seal_notes, keys, notes).name, name)


class OpenEntriesTest(unittest.TestCase):
    def setUp(self):
        self.keys = {"a": 10, "b": 20, "ab": 30}

    def entry(self, sender, counter, cells):
        return sealed_entry(self.keys[sender], sender, counter, cells)

    def test_notes_there_and_back(self):
        rng = random.Random(582)
        for _ in range(40):
            notes = [some_note(rng) for _ in range(rng.randint(0, 8))]
            keys = {note[-2] if note[0] in ("got", "mark") else note[2]: rng.choice(KEYS) for note in notes}
            entries = seal_notes(keys, notes)
            self.assertEqual(unchanged(self, open_entries, keys, entries), notes)
            self.assertEqual(open_entries(keys, entries[::-1]), notes[::-1])

    def test_a_refusal_of_the_gate_stands_ahead_of_cells(self):
        bad = self.entry("a", 1, (5,))
        good = self.entry("a", 2, cells_of(("mark", "a", (1, 1))))
        self.assertEqual(refusal(self, open_entries, self.keys, [bad]), (1, "cells"))
        self.assertEqual(refusal(self, open_entries, self.keys, [bad, ("x", 1, (), 0)]), (2, "sender"))
        self.assertEqual(refusal(self, open_entries, self.keys, [bad, good[:3] + (0,)]), (2, "seal"))
        self.assertEqual(refusal(self, open_entries, self.keys, [bad, good, good]), (3, "replay"))
        self.assertEqual(refusal(self, open_entries, self.keys, [good, bad]), (2, "cells"))
        self.assertEqual(refusal(self, open_entries, self.keys, [good, bad, self.entry("b", 1, ())]), (2, "cells"))

    def test_the_cells_of_a_note_of_another_clock(self):
        own = self.entry("a", 1, cells_of(("sent", 1, "a", (1, 1), "b")))
        other = self.entry("a", 2, cells_of(("sent", 1, "b", (1, 1), "a")))
        self.assertEqual(open_entries(self.keys, [own]), [("sent", 1, "a", (1, 1), "b")])
        self.assertEqual(refusal(self, open_entries, self.keys, [own, other]), (2, "cells"))
        for note in [("mark", "b", (1, 1)), ("mark", "ab", (1, 1)), ("got", 1, "b", (1, 1))]:
            self.assertEqual(refusal(self, open_entries, self.keys, [self.entry("a", 9, cells_of(note))]), (1, "cells"))
        for cells in [(), (3, 1, 97, 0, 1, 1), (3, 1, 97, 2, 0, 4), (3, 1, 97, 10 ** 9, 0, 1)]:
            self.assertEqual(refusal(self, open_entries, self.keys, [own, self.entry("a", 9, cells)]), (2, "cells"))

    def test_a_new_gate_for_each_call(self):
        entries = [self.entry("a", 1, cells_of(("mark", "a", (1, 1))))]
        for _ in range(3):
            self.assertEqual(open_entries(self.keys, entries), [("mark", "a", (1, 1))])


class GateTest(unittest.TestCase):
    def setUp(self):
        self.keys = {"a": 10, "b": 20}
        self.gate = Gate(self.keys)

    def entry(self, sender, counter, cells=(1, 2)):
        return sealed_entry(self.keys[sender], sender, counter, cells)

    def test_entries_that_are_admitted(self):
        entries = [self.entry("a", 3, (4, 5)), self.entry("b", 3, ()), self.entry("a", 1, (4, 5)), self.entry("a", 999, (6,))]
        self.assertEqual(self.gate.examine(entries), [(4, 5), (), (4, 5), (6,)])
        self.assertEqual(self.gate.examine(entries), [(4, 5), (), (4, 5), (6,)])
        self.assertEqual((self.gate.seen("a"), self.gate.seen("b")), ([], []))
        self.assertEqual(self.gate.admit_all(entries), [(4, 5), (), (4, 5), (6,)])
        self.assertEqual((self.gate.seen("a"), self.gate.seen("b")), ([1, 3, 999], [3]))
        self.assertEqual(self.gate.missing("a"), [2] + list(range(4, 999)))
        self.assertEqual(self.gate.missing("b"), [1, 2])
        self.assertEqual(self.gate.admit(self.entry("b", 1, (7,))), (7,))
        self.assertEqual((self.gate.seen("b"), self.gate.missing("b")), ([1, 3], [2]))
        self.assertEqual(self.gate.admit_all([]), [])
        self.assertEqual(self.gate.examine([]), [])

    def test_reasons_in_their_order(self):
        good = self.entry("a", 1)
        self.gate.admit(good)
        wrong_seal = good[:3] + ((good[3] + 1) % M,)
        for entry, reason in [(("x", 1, (1, 2), 0), "sender"), (("x",) + good[1:], "sender"), (wrong_seal, "seal"),
                              (("b",) + good[1:], "seal"), (good, "replay"), (self.entry("a", 1, (9,)), "replay"),
                              (("Not a name", 1, (), 0), "sender"), (("", 1, (), 0), "sender")]:
            self.assertEqual(refusal(self, self.gate.admit, entry), (1, reason))
            self.assertEqual(refusal(self, self.gate.admit_all, [entry]), (1, reason))
            self.assertEqual(refusal(self, self.gate.examine, [entry]), (1, reason))
            self.assertEqual(refusal(self, self.gate.examine, [self.entry("b", 5), self.entry("a", 2), entry]), (3, reason))
        self.assertEqual((self.gate.seen("a"), self.gate.seen("b")), ([1], []))

    def test_the_first_refused_entry_counts(self):
        good, seal, sender = self.entry("a", 1), self.entry("b", 1)[:3] + (0,), ("x", 1, (), 0)
        self.assertEqual(refusal(self, self.gate.examine, [good, good, seal, sender]), (2, "replay"))
        self.assertEqual(refusal(self, self.gate.examine, [good, seal, good, sender]), (2, "seal"))
        self.assertEqual(refusal(self, self.gate.examine, [good, sender, seal, good]), (2, "sender"))
        self.assertEqual(refusal(self, self.gate.examine, [good, self.entry("b", 1), self.entry("a", 1, (8,))]), (3, "replay"))

    def test_twice_in_one_list(self):
        good = self.entry("a", 5)
        self.assertEqual(refusal(self, self.gate.admit_all, [good, good]), (2, "replay"))
        self.assertEqual(self.gate.seen("a"), [])
        self.assertEqual(self.gate.admit_all([good]), [(1, 2)])
        self.assertEqual(refusal(self, self.gate.admit_all, [good]), (1, "replay"))
        self.assertEqual(self.gate.admit_all([self.entry("b", 5)]), [(1, 2)])

    def test_a_refused_list_admits_nothing(self):
        entries = [self.entry("a", 1), self.entry("b", 7), self.entry("a", 2)]
        for wrong in [("x", 1, (), 0), self.entry("a", 9)[:3] + (0,), self.entry("b", 7)]:
            refusal(self, self.gate.admit_all, entries + [wrong])
            self.assertEqual((self.gate.seen("a"), self.gate.seen("b")), ([], []))
            self.assertEqual((self.gate.missing("a"), self.gate.missing("b")), ([], []))
        self.assertEqual(self.gate.admit_all(entries), [(1, 2)] * 3)

    def test_counters_in_any_order(self):
        rng = random.Random(59)
        for _ in range(20):
            gate = Gate(self.keys)
            order = rng.sample(range(1, 30), 12)
            for counter in order:
                gate.admit(self.entry("a", counter))
            self.assertEqual(gate.seen("a"), sorted(order))
            self.assertEqual(gate.missing("a"), [counter for counter in range(1, max(order)) if counter not in order])

    def test_senders_without_a_key(self):
        for name in ("c", "", "A", "not a name", "aa"):
            self.assertEqual(caught(self, UnknownName, self.gate.seen, name).name, name)
            self.assertEqual(caught(self, UnknownName, self.gate.missing, name).name, name)
        self.assertEqual(caught(self, UnknownName, Gate({}).seen, "a").name, "a")

    def test_later_changes_of_the_keys_have_no_effect(self):
        entry = self.entry("a", 1)
        self.keys["a"] = 999
        self.keys["c"] = 30
        del self.keys["b"]
        self.assertEqual(self.gate.admit(entry), (1, 2))
        self.assertEqual(refusal(self, self.gate.admit, sealed_entry(30, "c", 1, ())), (1, "sender"))
        self.assertEqual(self.gate.seen("b"), [])

    def test_what_is_returned_may_be_changed(self):
        entries = [self.entry("a", 1), self.entry("a", 4)]
        found = unchanged(self, self.gate.examine, entries)
        found.clear()
        self.gate.admit_all(entries).append(3)
        for call in (self.gate.seen, self.gate.missing):
            first = unchanged(self, call, "a")
            first.clear()
            self.assertTrue(call("a"))
        entries.clear()
        self.assertEqual(self.gate.seen("a"), [1, 4])
        self.assertEqual(len(boxes(self.gate.seen("a"))), 1)


if __name__ == "__main__":
    unittest.main()
