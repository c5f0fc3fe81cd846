"""Worlds, ways and rings of claims: the judges of them, and the search for one of them."""

from clockverdict.exact import ZERO, add, compare, is_rational, is_whole, multiply, subtract
from clockverdict.paths import search_all


def _holds(claim, world):
    a, b, w, owner = claim
    low, high = world[a], world[b]
    # high - low <= w, multiplied by all three denominators: no long fraction has to be reduced.
    gap = high[0] * low[1] - low[0] * high[1]
    return gap * w[1] <= w[0] * (high[1] * low[1])


def is_world(count, claims, value, *, liars=()):
    """True if value is a list of count times, the first of them zero, that fits."""
    if not isinstance(value, list) or len(value) != count:
        return False
    if not all([is_rational(t) for t in value]) or value[0] != ZERO:
        return False
    return all([claim[3] in liars or _holds(claim, value) for claim in claims])


def broken(claims, world):
    """The indexes of all claims that do not hold in the world, ascending."""
    return [at for at, claim in enumerate(claims) if not _holds(claim, world)]


def liars_in(claims, world):
    """The owners of the claims that do not hold in the world, ascending."""
    return sorted({claims[at][3] for at in broken(claims, world)})


def _is_live_index(claims, value, liars):
    return is_whole(value) and 0 <= value < len(claims) and claims[value][3] not in liars


def is_way(claims, value, start, goal, *, liars=()):
    """True if value is a list of indexes of live claims that leads from start to goal."""
    if not isinstance(value, list):
        return False
    if start < 0:
        return False
    moment = start
    for at in value:
        if not _is_live_index(claims, at, liars) or claims[at][0] != moment:
            return False
        moment = claims[at][1]
    return moment == goal


def way_sum(claims, way):
    """The sum of a way."""
    times = {}
    for at in way:
        times[at] = times.get(at, 0) + 1
    result = ZERO
    for at, many in times.items():
        result = add(result, multiply(claims[at][2], (many, 1)))
    return result


def is_ring(claims, value, *, liars=()):
    """True if value is a way that is not empty, leads back to its first moment and has a sum below zero."""
    if not isinstance(value, list) or not value or not _is_live_index(claims, value[0], liars):
        return False
    start = claims[value[0]][0]
    return is_way(claims, value, start, start, liars=liars) and compare(way_sum(claims, value), ZERO) < 0


def settle(count, claims, *, liars=()):
    """("world", world) with a world that fits, or ("ring", ring) if there is none."""
    sums, ring = search_all(count, claims, liars)
    if ring is not None:
        return ("ring", ring)
    return ("world", [subtract(t, sums[0]) for t in sums])
