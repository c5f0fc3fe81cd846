"""Sealed entries: notes as cells, seals of cells, and gates that admit each entry once."""

from clockverdict.errors import BadCells, RefusedEntry, UnknownName
from clockverdict.exact import is_whole
from clockverdict.nets import is_name
from clockverdict.notes import clock_of, is_note, reading_of

MODULUS = 2147483647

_LAST_COUNTER = 999
_LAST_NUMBER = 999999999
_NAME_SIGNS = "abcdefghijklmnopqrstuvwxyz0123456789"

# The cell of each kind of note, and the other way round.
_CELL_OF_KIND = {"sent": 1, "got": 2, "mark": 3}
_KIND_OF_CELL = {1: "sent", 2: "got", 3: "mark"}

# Stands for a cell that is missing; it is no cell.
_NO_CELL = -1


def seal_of(key, counter, cells):
    """The seal for a key, a counter and a tuple of cells."""
    seal = counter
    for cell in cells:
        seal = (seal * key + cell) % MODULUS
    return (seal * key + len(cells)) % MODULUS


def sealed_entry(key, sender, counter, cells):
    """The entry of a sender with these cells and their seal."""
    return (sender, counter, cells, seal_of(key, counter, cells))


def _is_cell(value):
    return is_whole(value) and 0 <= value < MODULUS


def is_sealed(key, value):
    """True if value is an entry (sender, counter, cells, seal) that is sealed for the key."""
    if not isinstance(value, tuple) or len(value) != 4:
        return False
    sender, counter, cells, seal = value
    if not is_name(sender) or not is_whole(counter) or not 1 <= counter <= _LAST_COUNTER:
        return False
    if not isinstance(cells, tuple) or not all([_is_cell(cell) for cell in cells]):
        return False
    return _is_cell(seal) and seal == seal_of(key, counter, cells)


def _cells_of_name(name):
    return (len(name),) + tuple([ord(sign) for sign in name])


def cells_of(note):
    """The cells of a note."""
    n, d = reading_of(note)
    tag = () if note[0] == "mark" else (note[1],)
    goal = _cells_of_name(note[4]) if note[0] == "sent" else ()
    reading = (abs(n), 1 if n < 0 else 0, d)
    return (_CELL_OF_KIND[note[0]],) + tag + _cells_of_name(clock_of(note)) + reading + goal


def _take(rest):
    """The first cell of the rest, which loses it."""
    return rest.pop(0) if rest else _NO_CELL


def _take_name(rest):
    """What stands for a name at the front of the rest, which loses it; it need not be a name."""
    signs = {ord(sign): sign for sign in _NAME_SIGNS}
    many = _take(rest)
    name = "".join([signs.get(code, " ") for code in rest[:many]])
    del rest[:many]
    return name


def _take_reading(rest):
    """What stands for a reading at the front of the rest, which loses it; it need not be a rational."""
    n = _take(rest)
    sign = _take(rest)
    d = _take(rest)
    return (-n if sign == 1 else n, d)


def _told_by(cells):
    """What the cells tell, in the order of a note, whether it is a note or not."""
    rest = list(cells)
    kind = _KIND_OF_CELL.get(_take(rest), "")
    told = [kind]
    if kind != "mark":
        told.append(_take(rest))
    told.append(_take_name(rest))
    told.append(_take_reading(rest))
    if kind == "sent":
        told.append(_take_name(rest))
    return tuple(told)


def _find_note(cells):
    """The note with these cells, or None."""
    note = _told_by(cells)
    if not is_note(note):
        return None
    n, d = reading_of(note)
    if abs(n) > _LAST_NUMBER or d > _LAST_NUMBER:
        return None
    # Only its own cells give a note back: none is missing, none is too many, and zero has no sign.
    return note if cells_of(note) == cells else None


def note_of(cells):
    """The note with these cells."""
    note = _find_note(cells)
    if note is None:
        raise BadCells()
    return note


class Gate:
    """A gate with the keys of some senders, which admits each entry of them once."""

    def __init__(self, keys):
        self._keys = dict(keys)
        self._admitted = {sender: {} for sender in keys}

    def examine(self, entries):
        """The cells of the entries, none of which is to be refused; admits nothing."""
        fresh = {}
        for place, entry in enumerate(entries, start=1):
            reason = self._reason_against(entry, fresh)
            if reason is not None:
                raise RefusedEntry(place, reason)
            sender, counter, cells, seal = entry
            fresh[(sender, counter)] = True
        return [cells for sender, counter, cells, seal in entries]

    def admit_all(self, entries):
        """The cells of the entries, all of which it admits."""
        found = self.examine(entries)
        for sender, counter, cells, seal in entries:
            self._admitted[sender][counter] = True
        return found

    def admit(self, entry):
        """The cells of an entry, which it admits."""
        return self.admit_all([entry])[0]

    def seen(self, sender):
        """The admitted counters of a sender, ascending."""
        self._require_sender(sender)
        return sorted(self._admitted[sender])

    def missing(self, sender):
        """The counters below the greatest admitted one that are not admitted, ascending."""
        seen = self.seen(sender)
        if not seen:
            return []
        return [counter for counter in range(1, seen[-1]) if counter not in self._admitted[sender]]

    def _reason_against(self, entry, fresh):
        """The first reason to refuse an entry, or None; fresh has the entries ahead of it in its list."""
        sender, counter, cells, seal = entry
        if sender not in self._keys:
            return "sender"
        if seal != seal_of(self._keys[sender], counter, cells):
            return "seal"
        if counter in self._admitted[sender] or (sender, counter) in fresh:
            return "replay"
        return None

    def _require_sender(self, sender):
        if sender not in self._keys:
            raise UnknownName(sender)


def seal_notes(keys, notes):
    """An entry for each note, sent by its clock."""
    counters = {}
    entries = []
    for note in notes:
        sender = clock_of(note)
        if sender not in keys:
            raise UnknownName(sender)
        counters[sender] = counters.get(sender, 0) + 1
        entries.append(sealed_entry(keys[sender], sender, counters[sender], cells_of(note)))
    return entries


def notes_in(entries):
    """The notes in the entries, each of its own sender."""
    notes = []
    for place, (sender, counter, cells, seal) in enumerate(entries, start=1):
        note = _find_note(cells)
        if note is None or clock_of(note) != sender:
            raise RefusedEntry(place, "cells")
        notes.append(note)
    return notes


def open_entries(keys, entries):
    """The notes in entries that a new gate with these keys admits."""
    Gate(keys).admit_all(entries)
    return notes_in(entries)
