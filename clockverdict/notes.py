"""Notes about messages: their form and faults, what became of each message, and exchanges."""

from clockverdict.errors import BadNote
from clockverdict.exact import HALF, add, compare, is_rational, is_whole, multiply, negate, order_of, subtract
from clockverdict.nets import is_name
from clockverdict.spans import meet, shift

_LAST_TAG = 9999


def is_tag(value):
    """True if value is an integer from 1 to 9999."""
    return is_whole(value) and 1 <= value <= _LAST_TAG


def is_note(value):
    """True if value has the form of a sent, a got or a mark note."""
    if not isinstance(value, tuple) or len(value) not in (3, 4, 5):
        return False
    if len(value) == 3:
        kind, clock, reading = value
        return kind == "mark" and is_name(clock) and is_rational(reading)
    kind, tag, clock, reading = value[:4]
    if not is_tag(tag) or not is_name(clock) or not is_rational(reading):
        return False
    if len(value) == 4:
        return kind == "got"
    return kind == "sent" and is_name(value[4])


def clock_of(note):
    """The note's clock."""
    return note[1] if note[0] == "mark" else note[2]


def reading_of(note):
    """The note's reading."""
    return note[2] if note[0] == "mark" else note[3]


def _fault_of(net, note, goals):
    """The first fault of a note, or None; goals has the goal of each message sent by an earlier note."""
    named = [clock_of(note)]
    if note[0] == "sent":
        named.append(note[4])
    names = net.names()
    if not all([name in names for name in named]):
        return "clock"
    if note[0] == "sent":
        if not net.has_link(note[2], note[4]):
            return "link"
        return "tag" if note[1] in goals else None
    if note[0] == "got":
        if note[1] not in goals:
            return "tag"
        return None if goals[note[1]] == note[2] else "goal"
    return None


def require_sound(net, notes):
    """Raises BadNote for the first note with a fault."""
    goals = {}
    for place, note in enumerate(notes, start=1):
        reason = _fault_of(net, note, goals)
        if reason is not None:
            raise BadNote(place, reason)
        if note[0] == "sent":
            goals[note[1]] = note[4]


def readings_of(notes, clock):
    """The tuples (reading, place) of all notes of the clock, ascending."""
    rows = [(reading_of(note), place) for place, note in enumerate(notes, start=1) if clock_of(note) == clock]
    return [rows[at] for at in order_of([reading for reading, place in rows])]


def messages_of(notes):
    """For each got note, by place, the place of its sent note and its own place."""
    sent = {}
    found = []
    for place, note in enumerate(notes, start=1):
        if note[0] == "sent":
            sent[note[1]] = place
        if note[0] == "got":
            found.append((sent[note[1]], place))
    return found


def _tags(notes, kind):
    """The tags of all notes of one kind, by place."""
    return [note[1] for note in notes if note[0] == kind]


def lost_tags(notes):
    """The tags of all messages that never arrive, ascending."""
    arrived = _tags(notes, "got")
    return sorted([tag for tag in _tags(notes, "sent") if tag not in arrived])


def double_tags(notes):
    """The tags of all messages that arrive more than once, ascending."""
    arrivals = {}
    for tag in _tags(notes, "got"):
        arrivals[tag] = arrivals.get(tag, 0) + 1
    return sorted([tag for tag, many in arrivals.items() if many > 1])


def round_trip(stamps):
    """(d - a) - (c - b) for the stamps (a, b, c, d)."""
    a, b, c, d = stamps
    return subtract(subtract(d, a), subtract(c, b))


def plain_offset(stamps):
    """Half of the sum of b - a and c - d, for the stamps (a, b, c, d)."""
    a, b, c, d = stamps
    return multiply(add(subtract(b, a), subtract(c, d)), HALF)


def _negated(end):
    return None if end is None else negate(end)


def offset_span(stamps, forth, back):
    """The span of all offsets with which both delays are in their spans, or None."""
    a, b, c, d = stamps
    from_request = shift((_negated(forth[1]), _negated(forth[0])), subtract(b, a))
    from_reply = shift(back, subtract(c, d))
    return meet(from_request, from_reply)


def exchange_notes(stamps, client, server, *, tag=1):
    """The four notes of an exchange."""
    a, b, c, d = stamps
    return [("sent", tag, client, a, server), ("got", tag, server, b),
            ("sent", tag + 1, server, c, client), ("got", tag + 1, client, d)]


def _receipts_between(notes, start, goal):
    """The readings at sending and at arrival of each receipt of a message from start to goal, by place."""
    found = []
    for sent_place, got_place in messages_of(notes):
        sent, got = notes[sent_place - 1], notes[got_place - 1]
        if clock_of(sent) == start and clock_of(got) == goal:
            found.append((reading_of(sent), reading_of(got)))
    return found


def exchanges_of(notes, client, server):
    """The stamps of all exchanges between client and server, by the place at which the reply arrives."""
    requests = _receipts_between(notes, client, server)
    found = []
    for c, d in _receipts_between(notes, server, client):
        request = None
        for a, b in requests:
            if compare(b, c) <= 0 and (request is None or compare(b, request[1]) >= 0):
                request = (a, b)
        if request is not None:
            found.append(request + (c, d))
    return found
