"""What happens in a play: final courses, the run of notes, its liars, and a clock that pilots it."""

from clockverdict.claims import claims_of
from clockverdict.courses import runs_within, shown_at, slewed, stepped, tidy, worst_error
from clockverdict.exact import ZERO, add, compare, order_of
from clockverdict.steering import Steering, drift_between
from clockverdict.verdicts import verdict_span
from clockverdict.worlds import liars_in


def final_course(play, name):
    """The truth of a clock after all its steps and slews."""
    course = tidy(play.truth_of(name))
    changes = [deed for deed in play.deeds() if deed[0] in ("step", "slew") and deed[1] == name]
    for place in order_of([deed[2] for deed in changes]):
        kind, clock, at, change = changes[place]
        course = stepped(course, at, change) if kind == "step" else slewed(course, at, change)
    return course


def _events_of(play):
    """Tuples (time, head, tail) in the order of the deeds; a note is its head, the reading and its tail."""
    sends = {}
    events = []
    for deed in play.deeds():
        if deed[0] == "send":
            kind, tag, start, goal, at, delay = deed
            sends[tag] = (goal, at)
            events.append((at, ("sent", tag, start), (goal,)))
            if delay is not None:
                events.append((add(at, delay), ("got", tag, goal), ()))
        if deed[0] == "again":
            kind, tag, delay = deed
            goal, at = sends[tag]
            events.append((add(at, delay), ("got", tag, goal), ()))
        if deed[0] == "mark":
            kind, name, at = deed
            events.append((at, ("mark", name), ()))
    return events


def run(play):
    """The notes of the play and its true world."""
    events = _events_of(play)
    courses = {name: final_course(play, name) for name, truth in play.truths()}
    notes = []
    world = [ZERO]
    for place in order_of([event[0] for event in events]):
        at, head, tail = events[place]
        reading = shown_at(courses[head[-1]], at)
        notes.append(head + (reading,) + tail)
        world.append(at)
    return (notes, world)


def true_liars(play):
    """The owners of the claims that do not hold in the true world, ascending."""
    notes, world = run(play)
    return liars_in(claims_of(play.base_net(), notes), world)


def keeps_promise(net, name, course, *, start, end):
    """True if the course keeps the clock's rate bounds, and from start to end its error bound."""
    slow, fast = net.rates_of(name)
    bound = net.error_of(name)
    worst = worst_error(course, start, end)
    if bound is not None and compare(worst, bound) > 0:
        return False
    return runs_within(course, slow, fast)


def last_span(net, notes, suspects, most):
    """The verdict span of the moment of the last note."""
    moment = len(notes)
    return verdict_span(moment + 1, claims_of(net, notes), suspects, most, moment)


def pilot(play, name, *, error, slew, step_over=None):
    """The tuples (place, reading, shown, error) for each mark note of the clock that pilots the play."""
    net = play.base_net()
    slow, fast = net.rates_of(name)
    suspects = [clock for clock in net.names() if clock != name]
    notes, world = run(play)
    marks = [(place, note[2]) for place, note in enumerate(notes, start=1) if note[:2] == ("mark", name)]
    if not marks:
        return []
    first = marks[0][1]
    steering = Steering(first, first, error, slew=slew, drift=drift_between(slow, fast), step_over=step_over)
    told = []
    for place, reading in marks:
        steering.steer(reading, last_span(net, notes[:place], suspects, play.liar_limit))
        told.append((place, reading, steering.display(reading), steering.error_at(reading)))
    return told
