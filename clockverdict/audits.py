"""Audits: what a whole list of notes tells about clocks and times, and what follows for servers."""

from clockverdict.claims import claims_of
from clockverdict.errors import TooManyLiars
from clockverdict.exact import is_whole
from clockverdict.liars import is_case, least_count, roles
from clockverdict.machine import run
from clockverdict.seals import open_entries
from clockverdict.spans import is_span
from clockverdict.verdicts import left_by, verdict_span


def suspects_of(net, trusted):
    """The clocks of the net that are not trusted, ascending."""
    return [name for name in net.names() if name not in trusted]


def audit(net, notes, most, *, trusted=()):
    """The report (fits, least, roles, spans, rings) on the notes."""
    claims = claims_of(net, notes)
    names = suspects_of(net, trusted)
    count = len(notes) + 1
    least = least_count(count, claims, names)
    try:
        told = roles(count, claims, names, most)
    except TooManyLiars as error:
        return (False, least, {}, [], error.rings)
    spans = [verdict_span(count, claims, names, most, moment) for moment in range(1, count)]
    return (True, least, told, spans, [])


def _has_kinds(value):
    """True if value has the kinds of a report, where equality alone would take a boolean for a number."""
    if not isinstance(value, tuple) or len(value) != 5:
        return False
    fits, least, told, spans, rings = value
    if not isinstance(fits, bool) or not (least is None or is_whole(least)):
        return False
    return isinstance(spans, list) and all([is_span(span) for span in spans])


def is_audit(net, notes, most, value, *, trusted=()):
    """True if value is a report on the notes."""
    if not _has_kinds(value):
        return False
    right = audit(net, notes, most, trusted=trusted)
    if value[:4] != right[:4]:
        return False
    rings = value[4]
    return rings == [] if right[0] else is_case(claims_of(net, notes), suspects_of(net, trusted), most, rings)


def audit_entries(net, keys, entries, most, *, trusted=()):
    """The report on the notes in the entries."""
    return audit(net, open_entries(keys, entries), most, trusted=trusted)


def condemn_liars(layers, verdicts):
    """Condemns each server with the role of a liar; gives the names of those that were not condemned before."""
    condemned = []
    for name in layers.names():
        if verdicts.get(name) == "liar" and layers.state_of(name) != "condemned":
            layers.condemn(name)
            condemned.append(name)
    return condemned


def true_times_left(play, *, trusted=()):
    """For each moment of the run, whether its true time is a time left."""
    notes, world = run(play)
    net = play.base_net()
    claims = claims_of(net, notes)
    names = suspects_of(net, trusted)
    count = len(world)
    return [left_by(count, claims, names, play.liar_limit, moment).holds(world[moment]) for moment in range(1, count)]
