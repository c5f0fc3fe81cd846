"""Claims about true times: their form, and those that notes make."""

from clockverdict.exact import add, divide, is_rational, is_whole, negate, subtract
from clockverdict.nets import is_name
from clockverdict.notes import messages_of, readings_of, require_sound


def is_claim(value):
    """True if value has the form (a, b, w, owner) of a claim."""
    if not isinstance(value, tuple) or len(value) != 4:
        return False
    a, b, w, owner = value
    if not is_whole(a) or not is_whole(b) or a < 0 or b < 0 or not is_rational(w):
        return False
    return owner == "" or is_name(owner)


def _claims_of_errors(readings, error, clock):
    """That each reading is at most error away from its true time."""
    claims = []
    for reading, place in readings:
        claims.append((0, place, add(reading, error), clock))
        claims.append((place, 0, subtract(error, reading), clock))
    return claims


def _claims_of_rates(readings, rates, clock):
    """That between each two neighbouring readings as much time passes as the rate bounds let."""
    slow, fast = rates
    claims = []
    for at in range(1, len(readings)):
        before, p = readings[at - 1]
        behind, q = readings[at]
        gap = subtract(behind, before)
        claims.append((p, q, divide(gap, slow), clock))
        claims.append((q, p, negate(divide(gap, fast)), clock))
    return claims


def _claims_of_delays(net, notes):
    """That each receipt comes a permitted delay after its sending."""
    claims = []
    for sent, got in messages_of(notes):
        kind, tag, start, reading, goal = notes[sent - 1]
        low, high = net.delay_of(start, goal)
        if high is not None:
            claims.append((sent, got, high, ""))
        claims.append((got, sent, negate(low), ""))
    return claims


def claims_of(net, notes):
    """The claims of a sound list of notes."""
    require_sound(net, notes)
    claims = []
    for clock in net.names():
        readings = readings_of(notes, clock)
        error = net.error_of(clock)
        if error is not None:
            claims.extend(_claims_of_errors(readings, error, clock))
        claims.extend(_claims_of_rates(readings, net.rates_of(clock), clock))
    claims.extend(_claims_of_delays(net, notes))
    return claims


def owners_of(claims):
    """The owners of the claims, ascending, without the empty string."""
    return sorted({owner for a, b, w, owner in claims if owner != ""})
