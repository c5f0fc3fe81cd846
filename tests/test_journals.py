"""Points 68 and 70, and the interface's journals.py."""

import random
import unittest

from clockverdict.choosing import plain_cover
from clockverdict.covers import Cover
from clockverdict.errors import BadNote, NothingToRedo, NothingToUndo, TooManyLiars, UnknownMoment
from clockverdict.journals import Journal, replay
from clockverdict.liars import least_count, roles
from clockverdict.nets import Net
from clockverdict.verdicts import left_by, verdict_span
from tests.judging import excuses_of, good_case, left_of, least_of, roles_of
from tests.noting import FAULTY, plain_fault, sample_net, sound_notes
from tests.support import caught, laid_open, unchanged
from tests.test_audits import ONE_LIES, TRUSTED, TWO_LIE, plain_suspects, simple_net
from tests.test_claims import plain_claims


class PlainJournal:
    """Point 70, written apart from the program: each note with whether it is final, and what may be brought back."""

    def __init__(self):
        self.rows, self.back, self.log = [], [], []

    def write(self, note, final):
        self.rows.append((note, final))
        self.back = []
        self.log.append(("write", note, final))
        return len(self.rows)

    def undo(self):
        if not self.rows or self.rows[-1][1]:
            return None
        note, _ = self.rows.pop()
        self.back.append(note)
        self.log.append(("undo",))
        return note

    def redo(self):
        if not self.back:
            return None
        self.rows.append((self.back.pop(), False))
        self.log.append(("redo",))
        return len(self.rows)

    def close(self):
        self.rows = [(note, True) for note, _ in self.rows]
        self.log.append(("close",))

    def notes(self):
        return [note for note, _ in self.rows]


def answers(journal):
    """All answers of the journal about its notes, laid open."""
    many = len(journal.notes())
    try:
        told = journal.roles()
    except TooManyLiars as error:
        told = error.rings
    return laid_open((journal.notes(), [list(journal.left(moment)) for moment in range(many + 1)],
                      [journal.told(moment) for moment in range(many + 1)],
                      [list(journal.plain(moment)) for moment in range(many + 1)], told, journal.least()))


def written(net, notes, most=0, trusted=()):
    journal = Journal(net, most=most, trusted=trusted)
    for note in notes:
        journal.write(note)
    return journal


def mark(k):
    return ("mark", "a", (k, 1))


class DeedsTest(unittest.TestCase):
    def setUp(self):
        self.journal = Journal(simple_net(("a", (1, 1)), ("b", None)))

    def test_places_count_from_1(self):
        self.assertEqual([self.journal.write(mark(k)) for k in range(4)], [1, 2, 3, 4])
        self.assertEqual(self.journal.notes(), [mark(k) for k in range(4)])

    def test_a_new_journal(self):
        self.assertEqual((self.journal.notes(), self.journal.log()), ([], []))
        self.assertEqual(vars(caught(self, NothingToUndo, self.journal.undo)), {})
        self.assertEqual(vars(caught(self, NothingToRedo, self.journal.redo)), {})
        self.assertEqual(self.journal.log(), [])

    def test_undo_and_redo(self):
        for k in range(3):
            self.journal.write(mark(k))
        self.assertEqual(self.journal.undo(), mark(2))
        self.assertEqual(self.journal.undo(), mark(1))
        self.assertEqual(self.journal.notes(), [mark(0)])
        self.assertEqual(self.journal.redo(), 2)
        self.assertEqual(self.journal.redo(), 3)
        self.assertEqual(self.journal.notes(), [mark(0), mark(1), mark(2)])
        caught(self, NothingToRedo, self.journal.redo)
        for k in (2, 1, 0):
            self.assertEqual(self.journal.undo(), mark(k))
        caught(self, NothingToUndo, self.journal.undo)
        self.assertEqual(self.journal.redo(), 1)
        self.assertEqual(self.journal.notes(), [mark(0)])
        self.assertEqual(self.journal.undo(), mark(0))

    def test_a_write_forgets_what_could_be_brought_back(self):
        self.journal.write(mark(0))
        self.journal.write(mark(1))
        self.journal.undo()
        self.journal.undo()
        self.assertEqual(self.journal.write(mark(7)), 1)
        caught(self, NothingToRedo, self.journal.redo)
        self.assertEqual(self.journal.notes(), [mark(7)])
        # A write that raises an error forgets nothing.
        self.journal.undo()
        caught(self, BadNote, self.journal.write, ("mark", "zz", (0, 1)))
        self.assertEqual(self.journal.redo(), 1)

    def test_a_final_note_stays_and_so_do_those_ahead_of_it(self):
        self.journal.write(mark(0))
        self.journal.write(mark(1), final=True)
        caught(self, NothingToUndo, self.journal.undo)
        self.journal.write(mark(2))
        self.assertEqual(self.journal.undo(), mark(2))
        caught(self, NothingToUndo, self.journal.undo)
        self.assertEqual(self.journal.redo(), 3)
        self.assertEqual(self.journal.undo(), mark(2))
        self.assertEqual(self.journal.notes(), [mark(0), mark(1)])
        self.assertEqual(self.journal.write(mark(3), final=False), 3)
        self.assertEqual(self.journal.undo(), mark(3))

    def test_close(self):
        self.assertIsNone(self.journal.close())
        self.assertIsNone(self.journal.close())
        self.assertEqual(self.journal.log(), [("close",), ("close",)])
        self.journal.write(mark(0))
        self.journal.write(mark(1))
        self.journal.undo()
        self.journal.close()
        caught(self, NothingToUndo, self.journal.undo)
        # What could be brought back can be still, and is not final then.
        self.assertEqual(self.journal.redo(), 2)
        self.assertEqual(self.journal.undo(), mark(1))
        caught(self, NothingToUndo, self.journal.undo)
        self.assertEqual(self.journal.redo(), 2)
        self.journal.close()
        self.journal.close()
        caught(self, NothingToUndo, self.journal.undo)
        self.journal.write(mark(2))
        self.assertEqual(self.journal.undo(), mark(2))

    def test_what_was_undone_last_comes_back_first_across_a_close(self):
        for k in range(4):
            self.journal.write(mark(k))
        self.journal.undo()
        self.journal.undo()
        self.journal.close()
        self.assertEqual([self.journal.redo(), self.journal.redo()], [3, 4])
        self.assertEqual(self.journal.notes(), [mark(k) for k in range(4)])
        self.assertEqual([self.journal.undo(), self.journal.undo()], [mark(3), mark(2)])
        caught(self, NothingToUndo, self.journal.undo)

    def test_the_log(self):
        self.journal.write(mark(0))
        self.journal.write(mark(1), final=True)
        caught(self, NothingToUndo, self.journal.undo)
        caught(self, BadNote, self.journal.write, ("got", 1, "a", (0, 1)))
        self.journal.write(mark(2))
        self.journal.undo()
        self.journal.redo()
        caught(self, NothingToRedo, self.journal.redo)
        self.journal.close()
        self.journal.close()
        self.assertEqual(laid_open(self.journal.log()), laid_open(
            [("write", mark(0), False), ("write", mark(1), True), ("write", mark(2), False), ("undo",), ("redo",),
             ("close",), ("close",)]))

    def test_each_deed_after_each_other_one(self):
        rng = random.Random(70)
        net = simple_net(("a", (1, 1)), ("b", None))
        pairs = set()
        for _ in range(60):
            journal, plain, before = Journal(net), PlainJournal(), "new"
            for k in range(rng.randint(1, 25)):
                deed = rng.choice(["write", "write", "final", "undo", "undo", "redo", "close"])
                if deed in ("write", "final"):
                    wanted = plain.write(mark(k), deed == "final")
                    self.assertEqual(journal.write(mark(k), final=deed == "final"), wanted)
                elif deed == "close":
                    plain.close()
                    self.assertIsNone(journal.close())
                else:
                    wanted = getattr(plain, deed)()
                    call = getattr(journal, deed)
                    if wanted is None:
                        caught(self, NothingToUndo if deed == "undo" else NothingToRedo, call)
                    else:
                        self.assertEqual(call(), wanted)
                pairs.add((before, deed))
                before = deed
                self.assertEqual(laid_open((journal.notes(), journal.log())), laid_open((plain.notes(), plain.log)))
        self.assertGreaterEqual(len(pairs), 30)

    def test_faults_with_the_place_that_the_note_would_have(self):
        for notes, _ in FAULTY:
            journal, stands = Journal(sample_net()), []
            for note in notes:
                fault = plain_fault(sample_net(), stands + [note])
                if fault is None:
                    stands.append(note)
                    self.assertEqual(journal.write(note), len(stands))
                    continue
                error = caught(self, BadNote, journal.write, note, final=True)
                self.assertEqual((error.place, error.reason), fault)
                self.assertEqual(error.place, len(stands) + 1)
                self.assertEqual(journal.notes(), stands)
                self.assertEqual(len(journal.log()), len(stands))

    def test_a_tag_is_free_again_behind_an_undo(self):
        journal = Journal(sample_net())
        journal.write(("sent", 1, "a", (0, 1), "b"))
        self.assertEqual(caught(self, BadNote, journal.write, ("sent", 1, "b", (0, 1), "a")).reason, "tag")
        journal.undo()
        self.assertEqual(caught(self, BadNote, journal.write, ("got", 1, "b", (0, 1))).reason, "tag")
        self.assertEqual(journal.write(("sent", 1, "b", (0, 1), "a")), 1)
        self.assertEqual(caught(self, BadNote, journal.write, ("got", 1, "b", (0, 1))).reason, "goal")


class AnswersTest(unittest.TestCase):
    def check(self, journal, net, most, trusted):
        """The answers are those that the points give for the notes that stand."""
        notes = journal.notes()
        claims, names, count = plain_claims(net, notes), plain_suspects(net, trusted), len(notes) + 1
        for moment in range(count):
            left = unchanged(self, journal.left, moment)
            self.assertIs(type(left), Cover)
            wanted = left_of(count, claims, names, most, moment)
            self.assertEqual(list(left), wanted)
            self.assertEqual(list(left), list(left_by(count, claims, names, most, moment)))
            self.assertEqual(journal.told(moment), (wanted[0][0], wanted[-1][1]) if wanted else None)
            self.assertEqual(journal.told(moment), verdict_span(count, claims, names, most, moment))
            self.assertEqual(list(journal.plain(moment)), list(plain_cover(count, claims, names, most, moment)))
        found = excuses_of(count, claims, names, most)
        if found:
            self.assertEqual(laid_open(unchanged(self, journal.roles)), laid_open(roles_of(found, names)))
            self.assertEqual(journal.roles(), roles(count, claims, names, most))
        else:
            rings = caught(self, TooManyLiars, journal.roles).rings
            self.assertTrue(good_case(claims, names, most, rings, count))
        self.assertEqual(journal.least(), least_of(count, claims, names))
        self.assertEqual(journal.least(), least_count(count, claims, names))
        return bool(found)

    def test_the_document(self):
        net = simple_net(("a", (1, 1)), ("b", (1, 1)), links=[("a", "b", (0, 1), (1, 1))])
        journal = Journal(net, most=1)
        self.assertEqual(journal.write(("sent", 1, "a", (5, 1), "b")), 1)
        self.assertEqual(journal.write(("got", 1, "b", (9, 1))), 2)
        self.assertEqual(list(journal.left(1)), [((4, 1), (6, 1)), ((7, 1), (10, 1))])
        self.assertEqual(journal.told(1), ((4, 1), (10, 1)))
        self.check(journal, net, 1, ())

    def test_many(self):
        rng = random.Random(701)
        found = [0, 0]
        for _ in range(60):
            net = sample_net()
            most, trusted = rng.randint(0, 3), rng.choice(TRUSTED)
            journal = written(net, sound_notes(rng, net, rng.randint(0, 6)), most, trusted)
            found[self.check(journal, net, most, trusted)] += 1
        self.assertGreater(min(found), 5)

    def test_the_answers_behind_each_deed(self):
        rng = random.Random(702)
        for _ in range(12):
            net = sample_net()
            most, trusted = rng.randint(0, 2), rng.choice(TRUSTED)
            journal = Journal(net, most=most, trusted=trusted)
            notes = sound_notes(rng, net, 5)
            for _ in range(10):
                deed = rng.choice(["write", "write", "undo", "redo", "close"])
                try:
                    if deed == "write":
                        journal.write(notes[len(journal.notes())] if len(journal.notes()) < len(notes) else mark(3))
                    else:
                        getattr(journal, deed)()
                except (NothingToUndo, NothingToRedo, BadNote):
                    pass
                self.assertEqual(answers(journal), answers(written(net, journal.notes(), most, trusted)))
                again = replay(net, journal.log(), most=most, trusted=trusted)
                self.assertEqual(answers(again), answers(journal))
                self.assertEqual(laid_open(again.log()), laid_open(journal.log()))

    def test_moments_that_there_are_not(self):
        journal = written(simple_net(("a", (1, 1))), [mark(1), mark(2)])
        for call in (journal.left, journal.told, journal.plain):
            for moment in (-1, 3, 4, 17, -3, 10 ** 12 - 1):
                self.assertEqual(caught(self, UnknownMoment, call, moment).moment, moment)
            call(0)
            call(2)
        journal.undo()
        self.assertEqual(caught(self, UnknownMoment, journal.told, 2).moment, 2)
        journal.redo()
        self.assertEqual(journal.told(2), ((1, 1), (3, 1)))
        empty = Journal(Net())
        self.assertEqual(caught(self, UnknownMoment, empty.left, 1).moment, 1)
        self.assertEqual(empty.told(0), ((0, 1), (0, 1)))

    def test_too_many_liars(self):
        net, notes = TWO_LIE
        journal = written(net, notes, 1)
        claims = plain_claims(net, notes)
        error = caught(self, TooManyLiars, journal.roles)
        self.assertTrue(good_case(claims, ["a", "b", "c"], 1, error.rings, len(notes) + 1))
        self.assertIs(error.rings, error.rings)
        self.assertEqual([list(journal.left(moment)) for moment in range(7)], [[]] * 7)
        self.assertEqual([journal.told(moment) for moment in range(7)], [None] * 7)
        self.assertEqual(journal.least(), 2)
        error.rings.clear()
        self.assertTrue(caught(self, TooManyLiars, journal.roles).rings)

    def test_trusted_clocks_and_defaults(self):
        net, notes = ONE_LIES
        self.assertEqual(written(net, notes, 1).roles(), {"a": "honest", "b": "honest", "c": "liar"})
        self.assertEqual(written(net, notes, 2, ["c"]).roles(), {"a": "liar", "b": "liar"})
        self.assertEqual(written(net, notes, 1, ("a", "zz")).roles(), {"b": "honest", "c": "liar"})
        self.assertEqual(list(written(net, [], 1, ("b",)).roles()), ["a", "c"])
        self.assertEqual(answers(Journal(net)), answers(Journal(net, most=0, trusted=())))
        caught(self, TooManyLiars, written(net, notes).roles)


class ApartTest(unittest.TestCase):
    def test_later_changes_have_no_effect(self):
        net, notes = simple_net(("a", (1, 1)), ("b", None)), [mark(1), mark(2), ("mark", "b", (0, 1))]
        trusted = ["a"]
        journal = written(net, notes, 1, trusted)
        before = answers(journal)
        net.add_clock("c", error=(0, 1))
        net.add_link("a", "b")
        trusted.append("b")
        trusted[0] = "zz"
        notes.clear()
        self.assertEqual(answers(journal), before)
        self.assertEqual(caught(self, BadNote, journal.write, ("mark", "c", (0, 1))).reason, "clock")
        self.assertEqual(caught(self, BadNote, journal.write, ("sent", 1, "a", (0, 1), "b")).reason, "link")

    def test_what_is_returned_may_be_changed(self):
        journal = written(simple_net(("a", (1, 1)), ("b", None)), [mark(1), mark(2)], 1)
        before = (answers(journal), laid_open(journal.log()))
        for call in (journal.notes, journal.log, journal.roles):
            unchanged(self, call).clear()
        self.assertEqual((answers(journal), laid_open(journal.log())), before)

    def test_two_journals_do_not_touch_each_other(self):
        net = simple_net(("a", (1, 1)))
        first, second = Journal(net), Journal(net)
        first.write(mark(1))
        self.assertEqual(second.notes(), [])
        caught(self, NothingToUndo, second.undo)


class ReplayTest(unittest.TestCase):
    def setUp(self):
        self.net = simple_net(("a", (1, 1)), ("b", None))

    def test_a_log_that_no_journal_made(self):
        log = [("close",), ("write", mark(1), False), ("write", mark(2), True), ("close",), ("write", mark(3), False),
               ("undo",), ("redo",), ("undo",), ("write", mark(4), False)]
        journal = replay(self.net, log)
        self.assertIs(type(journal), Journal)
        self.assertEqual(journal.notes(), [mark(1), mark(2), mark(4)])
        self.assertEqual(laid_open(journal.log()), laid_open(log))
        self.assertEqual(journal.undo(), mark(4))
        caught(self, NothingToUndo, journal.undo)
        self.assertEqual(journal.redo(), 3)

    def test_logs_that_fail_in_the_middle(self):
        write = ("write", mark(1), False)
        for log, kind in [([("undo",)], NothingToUndo), ([("redo",)], NothingToRedo), ([write, ("undo",), ("undo",)], NothingToUndo),
                          ([write, ("redo",), ("undo",)], NothingToRedo), ([write, ("close",), ("undo",), write], NothingToUndo),
                          ([("write", mark(1), True), ("undo",)], NothingToUndo),
                          ([write, ("undo",), write, ("redo",), ("write", ("mark", "zz", (1, 1)), False)], NothingToRedo),
                          ([write, ("write", ("mark", "zz", (1, 1)), False), ("redo",)], BadNote)]:
            caught(self, kind, replay, self.net, log)
        error = caught(self, BadNote, replay, self.net, [write, write, ("undo",), ("write", ("mark", "zz", (1, 1)), True)])
        self.assertEqual((error.place, error.reason), (2, "clock"))

    def test_no_log_at_all(self):
        journal = replay(self.net, [])
        self.assertEqual((journal.notes(), journal.log()), ([], []))
        self.assertEqual(answers(journal), answers(Journal(self.net)))

    def test_the_log_and_the_net_that_are_passed_stay_apart(self):
        log = [("write", mark(1), False), ("undo",)]
        trusted = ["b"]
        journal = replay(self.net, log, most=1, trusted=trusted)
        log.append(("redo",))
        trusted.clear()
        self.net.add_clock("c")
        self.assertEqual(journal.log(), [("write", mark(1), False), ("undo",)])
        self.assertEqual(list(journal.roles()), ["a"])
        journal.redo()
        self.assertEqual(len(log), 3)
        self.assertEqual(journal.log()[-1], ("redo",))

    def test_replay_passes_on_most_and_trusted(self):
        net, notes = ONE_LIES
        log = written(net, notes).log()
        self.assertEqual(replay(net, log, most=2, trusted=("c",)).roles(), {"a": "liar", "b": "liar"})
        caught(self, TooManyLiars, replay(net, log).roles)
        self.assertEqual(answers(replay(net, log)), answers(replay(net, log, most=0, trusted=())))


if __name__ == "__main__":
    unittest.main()
