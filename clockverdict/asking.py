"""Asking: what a message that is only planned would tell, and whom it is best to ask."""

from clockverdict.audits import suspects_of
from clockverdict.claims import claims_of
from clockverdict.errors import TooManyLiars, UnknownName
from clockverdict.exact import ZERO, add, compare, smaller, subtract, total
from clockverdict.liars import case_against
from clockverdict.machine import last_span
from clockverdict.notes import require_sound
from clockverdict.spans import width_of
from clockverdict.verdicts import verdict_span

_NEVER = ("never", None)
_OPEN = ("open", None)


def _require_asker(net, notes, asker):
    require_sound(net, notes)
    if asker not in net.names():
        raise UnknownName(asker)


def _require_link(net, notes, server, asker):
    require_sound(net, notes)
    # This raises for a server or an asker that is no clock, and where there is no link.
    net.delay_of(server, asker)


def _free_tag(notes):
    """The least tag that no sent note has."""
    taken = [note[1] for note in notes if note[0] == "sent"]
    tag = 1
    while tag in taken:
        tag = tag + 1
    return tag


def planned(net, notes, server, asker, *, stamp, reading):
    """The notes, with those of a message from the server to the asker behind them."""
    _require_link(net, notes, server, asker)
    tag = _free_tag(notes)
    return notes + [("sent", tag, server, stamp, asker), ("got", tag, asker, reading)]


def span_now(net, notes, most, asker, *, reading, trusted=()):
    """The verdict span of the asker's moment with the reading, or None."""
    _require_asker(net, notes, asker)
    return last_span(net, notes + [("mark", asker, reading)], suspects_of(net, trusted), most)


def span_after(net, notes, most, server, asker, *, stamp, reading, trusted=()):
    """The verdict span of the planned arrival, or None if the stamp cannot come."""
    plan = planned(net, notes, server, asker, stamp=stamp, reading=reading)
    return last_span(net, plan, suspects_of(net, trusted), most)


def _worse(worst, span):
    """The worst width, with the span after one stamp more."""
    if span is None or worst == _OPEN:
        return worst
    width = width_of(span)
    if width is None:
        return _OPEN
    if worst == _NEVER or compare(width, worst[1]) > 0:
        return ("width", width)
    return worst


def worst_width(net, notes, most, server, asker, *, stamps, reading, trusted=()):
    """The worst width for the stamps."""
    _require_link(net, notes, server, asker)
    worst = _NEVER
    for stamp in stamps:
        span = span_after(net, notes, most, server, asker, stamp=stamp, reading=reading, trusted=trusted)
        worst = _worse(worst, span)
    return worst


def _is_less(width, other):
    """True if the width is less than the other one; None is greater than each width."""
    return width is not None and (other is None or compare(width, other) < 0)


def best_plan(net, notes, most, asker, plans, *, reading, trusted=()):
    """The index of the best plan, or None."""
    _require_asker(net, notes, asker)
    best = None
    least = None
    for at, (server, stamps) in enumerate(plans):
        kind, width = worst_width(net, notes, most, server, asker, stamps=stamps, reading=reading, trusted=trusted)
        if kind != "never" and (best is None or _is_less(width, least)):
            best = at
            least = width
    return best


def _span_without_liars(net, notes, asker, reading):
    """The span now without liars; raises TooManyLiars if there is none."""
    marked = notes + [("mark", asker, reading)]
    moment = len(marked)
    claims = claims_of(net, marked)
    span = verdict_span(moment + 1, claims, [], 0, moment)
    if span is None:
        raise TooManyLiars(case_against(moment + 1, claims, [], 0))
    return span


def _promise_of(net, server, asker, now):
    """The promised width of a server, with the span now."""
    error = net.error_of(server)
    low, high = net.delay_of(server, asker)
    width = width_of(now)
    if error is None or high is None:
        return width
    told = total(error, error, subtract(high, low))
    return told if width is None else smaller(told, width)


def promised_width(net, notes, server, asker, *, reading):
    """The promised width, or None."""
    _require_link(net, notes, server, asker)
    return _promise_of(net, server, asker, _span_without_liars(net, notes, asker, reading))


def worst_stamp(net, notes, server, asker, *, reading):
    """The worst stamp, or None."""
    _require_link(net, notes, server, asker)
    first, last = _span_without_liars(net, notes, asker, reading)
    error = net.error_of(server)
    low, high = net.delay_of(server, asker)
    if error is None or high is None:
        return None
    if first is not None:
        return subtract(add(first, error), low)
    return ZERO if last is None else subtract(subtract(last, error), high)


def best_server(net, notes, asker, *, reading):
    """The clock with a link to the asker and the least promised width, or None."""
    _require_asker(net, notes, asker)
    now = _span_without_liars(net, notes, asker, reading)
    best = None
    least = None
    for server in net.names():
        if not net.has_link(server, asker):
            continue
        width = _promise_of(net, server, asker, now)
        if best is None or _is_less(width, least):
            best = server
            least = width
    return best
