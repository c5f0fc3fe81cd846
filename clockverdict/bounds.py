"""The bounds that claims set between moments, with ways, worlds and certificates that show them."""

from clockverdict.errors import NoWorld, OutsideSpan, UnknownMoment
from clockverdict.exact import is_whole, negate
from clockverdict.paths import search_from, way_behind
from clockverdict.spans import is_span, span_holds
from clockverdict.worlds import is_way, is_world, settle, way_sum


def require_moment(count, moment):
    """Raises UnknownMoment for a moment that is not from 0 to count - 1."""
    if moment < 0 or moment >= count:
        raise UnknownMoment(moment)


def _fitting_world(count, claims, liars):
    """A world that fits; raises NoWorld if there is none."""
    kind, found = settle(count, claims, liars=liars)
    if kind == "ring":
        raise NoWorld(found)
    return found


def least_bound(count, claims, start, goal, *, liars=()):
    """The least sum of a way from start to goal, or None."""
    require_moment(count, start)
    require_moment(count, goal)
    _fitting_world(count, claims, liars)
    sums, _ = search_from(count, claims, liars, start)
    return sums[goal]


def bound_way(count, claims, start, goal, *, liars=()):
    """A way from start to goal with the least sum, or None."""
    require_moment(count, start)
    require_moment(count, goal)
    _fitting_world(count, claims, liars)
    sums, came = search_from(count, claims, liars, start)
    return None if sums[goal] is None else way_behind(claims, came, goal)


def narrowest(count, claims, moment, *, liars=()):
    """The narrowest span of the moment."""
    require_moment(count, moment)
    _fitting_world(count, claims, liars)
    above, _ = search_from(count, claims, liars, 0)
    below, _ = search_from(count, claims, liars, moment)
    return (None if below[0] is None else negate(below[0]), above[moment])


def span_if_fits(count, claims, moment, liars):
    """The narrowest span of the moment, or None if no world fits."""
    try:
        return narrowest(count, claims, moment, liars=liars)
    except NoWorld:
        return None


def _world_with(count, claims, moment, at, liars):
    """A world that fits and has the moment at a time of its narrowest span."""
    fixed = claims + [(0, moment, at, ""), (moment, 0, negate(at), "")]
    return _fitting_world(count, fixed, liars)


def world_at(count, claims, moment, at, *, liars=()):
    """A world that fits and has the time at as the true time of the moment."""
    if not span_holds(narrowest(count, claims, moment, liars=liars), at):
        raise OutsideSpan(at)
    return _world_with(count, claims, moment, at, liars)


def _side(count, claims, start, goal, liars):
    """("way", way) with a least way from start to goal, or ("cut", moments) with all that start leads to."""
    sums, came = search_from(count, claims, liars, start)
    if sums[goal] is None:
        return ("cut", [moment for moment in range(count) if sums[moment] is not None])
    return ("way", way_behind(claims, came, goal))


def span_certificate(count, claims, moment, *, liars=()):
    """A certificate (span, high_side, low_side) of the narrowest span of the moment."""
    low, high = narrowest(count, claims, moment, liars=liars)
    sides = []
    for start, goal, end in ((0, moment, high), (moment, 0, low)):
        kind, proof = _side(count, claims, start, goal, liars)
        if end is None:
            world = _fitting_world(count, claims, liars)
        else:
            world = _world_with(count, claims, moment, end, liars)
        sides.append((kind, proof, world))
    return ((low, high), sides[0], sides[1])


def _is_cut(count, claims, value, start, goal, liars):
    """True if value is a list of moments with start and without goal that no live claim leads out of."""
    if not isinstance(value, list):
        return False
    before = -1
    for moment in value:
        if not is_whole(moment) or not before < moment < count:
            return False
        before = moment
    if start not in value or goal in value:
        return False
    for a, b, w, owner in claims:
        if owner not in liars and a in value and b not in value:
            return False
    return True


def _is_side(count, claims, value, start, goal, bound, liars):
    """True if value shows that bound is the least sum of a way from start to goal, but for its world's time."""
    if not isinstance(value, tuple) or len(value) != 3:
        return False
    kind, proof, world = value
    if not is_world(count, claims, world, liars=liars):
        return False
    if bound is None:
        return kind == "cut" and _is_cut(count, claims, proof, start, goal, liars)
    if kind != "way" or not is_way(claims, proof, start, goal, liars=liars):
        return False
    return way_sum(claims, proof) == bound


def is_span_certificate(count, claims, moment, value, *, liars=()):
    """True if value is a certificate of the narrowest span of the moment."""
    if not isinstance(value, tuple) or len(value) != 3 or not is_span(value[0]):
        return False
    (low, high), high_side, low_side = value
    if not _is_side(count, claims, high_side, 0, moment, high, liars):
        return False
    bound = None if low is None else negate(low)
    if not _is_side(count, claims, low_side, moment, 0, bound, liars):
        return False
    if high is not None and high_side[2][moment] != high:
        return False
    return low is None or low_side[2][moment] == low


def all_bounds(count, claims, *, liars=()):
    """Item b of list a is the least bound from moment a to moment b."""
    _fitting_world(count, claims, liars)
    return [search_from(count, claims, liars, start)[0] for start in range(count)]
