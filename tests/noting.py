"""What the tests of notes, claims, plays and machines share: a net, sound notes, and point 19 written apart."""

from clockverdict.nets import Net
from tests.support import some_rational


def sample_net():
    """Four clocks: a and b with all links between them, c with a link to a alone, d without a link."""
    net = Net()
    net.add_clock("c", slow=(1, 2), fast=(1, 1))
    net.add_clock("a", error=(1, 1))
    net.add_clock("b", slow=(1, 2), fast=(2, 1), error=(3, 2))
    net.add_clock("d", slow=(3, 2), fast=(2, 1), error=(0, 1))
    net.add_link("a", "b", low=(1, 1), high=(5, 2))
    net.add_link("b", "a", low=(1, 2))
    net.add_link("c", "a", high=(4, 1))
    net.add_link("a", "c")
    return net


def sound_notes(rng, net, many):
    """A sound list of notes: messages that arrive once, twice or never, and marks."""
    notes = []
    goals = {}
    links = net.links()
    for _ in range(many):
        kind = rng.choice(["sent", "got", "got", "mark"]) if goals else rng.choice(["sent", "sent", "mark"])
        reading = some_rational(rng, -4, 12, 2)
        if kind == "sent":
            tag = rng.choice([tag for tag in list(range(1, 40)) + [9998, 9999] if tag not in goals])
            start, goal = rng.choice(links)
            goals[tag] = goal
            notes.append(("sent", tag, start, reading, goal))
        elif kind == "got":
            tag = rng.choice(sorted(goals))
            notes.append(("got", tag, goals[tag], reading))
        else:
            notes.append(("mark", rng.choice(net.names()), reading))
    return notes


def plain_fault(net, notes):
    """The pair (place, reason) of the first fault, or None: point 19, written apart from the program."""
    for at, note in enumerate(notes):
        place = at + 1
        earlier = {old[1]: old for old in notes[:at] if old[0] == "sent"}
        kind, clock = note[0], note[-2] if note[0] != "sent" else note[2]
        if clock not in net.names() or (kind == "sent" and note[4] not in net.names()):
            return (place, "clock")
        if kind == "sent" and (clock, note[4]) not in net.links():
            return (place, "link")
        if kind == "sent" and note[1] in earlier:
            return (place, "tag")
        if kind == "got" and note[1] not in earlier:
            return (place, "tag")
        if kind == "got" and earlier[note[1]][4] != clock:
            return (place, "goal")
    return None


# Lists of notes, each with the first fault that counts for the sample net.
S1, G1 = ("sent", 1, "a", (0, 1), "b"), ("got", 1, "b", (1, 1))
FAULTY = [
    ([("mark", "x", (0, 1))], (1, "clock")),
    ([("sent", 1, "x", (0, 1), "a")], (1, "clock")),
    ([("sent", 1, "a", (0, 1), "x")], (1, "clock")),
    ([("sent", 1, "x", (0, 1), "x")], (1, "clock")),
    ([("got", 1, "x", (0, 1))], (1, "clock")),
    ([S1, ("got", 1, "x", (0, 1))], (2, "clock")),
    ([S1, ("got", 2, "x", (0, 1))], (2, "clock")),
    ([S1, ("sent", 1, "a", (0, 1), "x")], (2, "clock")),
    ([S1, ("sent", 1, "x", (0, 1), "d")], (2, "clock")),
    ([("sent", 1, "a", (0, 1), "d")], (1, "link")),
    ([("sent", 1, "a", (0, 1), "a")], (1, "link")),
    ([("sent", 1, "b", (0, 1), "c")], (1, "link")),
    ([S1, ("sent", 1, "b", (0, 1), "d")], (2, "link")),
    ([S1, ("sent", 2, "c", (0, 1), "b")], (2, "link")),
    ([S1, S1], (2, "tag")),
    ([S1, ("sent", 1, "b", (5, 1), "a")], (2, "tag")),
    ([S1, G1, ("sent", 1, "b", (5, 1), "a")], (3, "tag")),
    ([G1, S1], (1, "tag")),
    ([G1], (1, "tag")),
    ([S1, ("got", 2, "b", (1, 1))], (2, "tag")),
    ([S1, ("got", 2, "a", (1, 1)), ("sent", 2, "b", (1, 1), "a")], (2, "tag")),
    ([S1, ("got", 1, "a", (1, 1))], (2, "goal")),
    ([S1, G1, ("got", 1, "c", (1, 1))], (3, "goal")),
    ([S1, ("got", 1, "d", (1, 1))], (2, "goal")),
    # Several faults: the first note counts, and in it the first fault.
    ([("mark", "a", (0, 1)), ("mark", "y", (0, 1)), ("mark", "x", (0, 1))], (2, "clock")),
    ([S1, ("got", 1, "a", (1, 1)), ("mark", "x", (0, 1)), S1], (2, "goal")),
    ([S1, S1, ("got", 1, "a", (1, 1))], (2, "tag")),
    ([("got", 7, "b", (1, 1)), ("sent", 1, "a", (0, 1), "d")], (1, "tag")),
    ([("sent", 1, "a", (0, 1), "d"), ("got", 7, "b", (1, 1))], (1, "link")),
    ([S1, ("sent", 1, "a", (0, 1), "d"), ("mark", "x", (0, 1))], (2, "link")),
]
