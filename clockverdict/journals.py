"""Journals: notes that are written, taken back and brought back, and what stands by them now."""

from clockverdict.audits import suspects_of
from clockverdict.choosing import plain_cover
from clockverdict.claims import claims_of
from clockverdict.errors import NothingToRedo, NothingToUndo
from clockverdict.liars import least_count, roles
from clockverdict.notes import require_sound
from clockverdict.verdicts import left_by, verdict_span


class Journal:
    """A journal for a copy of the net, at first without notes."""

    def __init__(self, net, *, most=0, trusted=()):
        self._net = net.clone()
        self._most = most
        self._names = suspects_of(net, trusted)
        self._notes = []
        # The number of notes that stand for ever: all up to the last final one.
        self._fixed = 0
        self._undone = []
        self._log = []

    def write(self, note, *, final=False):
        """Writes a note behind the others, and gives its place."""
        require_sound(self._net, self._notes + [note])
        self._undone = []
        self._log.append(("write", note, final))
        place = self._stand(note)
        if final:
            self._fixed = place
        return place

    def undo(self):
        """Takes the last note back, and gives it."""
        if len(self._notes) == self._fixed:
            raise NothingToUndo()
        note = self._notes.pop()
        self._undone.append(note)
        self._log.append(("undo",))
        return note

    def redo(self):
        """Brings back the note that was taken back last, and gives its place."""
        if not self._undone:
            raise NothingToRedo()
        self._log.append(("redo",))
        return self._stand(self._undone.pop())

    def close(self):
        """Makes all notes final."""
        self._fixed = len(self._notes)
        self._log.append(("close",))

    def notes(self):
        """All notes that stand now."""
        return list(self._notes)

    def log(self):
        """All calls that wrote, took back, brought back or closed."""
        return list(self._log)

    def left(self, moment):
        """The cover of the times left for a moment."""
        return left_by(self._count(), self._claims(), self._names, self._most, moment)

    def told(self, moment):
        """The verdict span of a moment, or None."""
        return verdict_span(self._count(), self._claims(), self._names, self._most, moment)

    def plain(self, moment):
        """The plain cover of a moment."""
        return plain_cover(self._count(), self._claims(), self._names, self._most, moment)

    def roles(self):
        """The role of each suspect."""
        return roles(self._count(), self._claims(), self._names, self._most)

    def least(self):
        """The least number of liars, or None."""
        return least_count(self._count(), self._claims(), self._names)

    def _stand(self, note):
        self._notes.append(note)
        return len(self._notes)

    def _count(self):
        return len(self._notes) + 1

    def _claims(self):
        return claims_of(self._net, self._notes)


def _do(journal, deed):
    """Does what a row of a log tells."""
    if deed[0] == "write":
        journal.write(deed[1], final=deed[2])
    if deed[0] == "undo":
        journal.undo()
    if deed[0] == "redo":
        journal.redo()
    if deed[0] == "close":
        journal.close()


def replay(net, log, *, most=0, trusted=()):
    """A new journal on which all deeds of the log were done."""
    journal = Journal(net, most=most, trusted=trusted)
    for deed in log:
        _do(journal, deed)
    return journal
