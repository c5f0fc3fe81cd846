"""Grid worlds: worlds of integers within bounds, all of them tried, as a plain twin of the verdicts."""

from clockverdict.bounds import require_moment
from clockverdict.exact import ZERO
from clockverdict.worlds import is_world, liars_in


def boxed(count, claims, low, high):
    """The claims, with two more for each moment that keep it from low to high."""
    found = list(claims)
    for moment in range(1, count):
        found.append((0, moment, (high, 1), ""))
        found.append((moment, 0, (-low, 1), ""))
    return found


def _all_worlds(count, low, high):
    """All grid worlds, ascending."""
    worlds = [[ZERO]]
    for _ in range(1, count):
        worlds = [world + [(t, 1)] for world in worlds for t in range(low, high + 1)]
    return worlds


def grid_worlds(count, claims, low, high, *, liars=()):
    """All grid worlds that fit, ascending."""
    return [world for world in _all_worlds(count, low, high) if is_world(count, claims, world, liars=liars)]


def _fits_with_some(claims, names, most, world):
    """True if the world fits with some liar set as liars: with the owners of all claims that do not hold."""
    owners = liars_in(claims, world)
    return len(owners) <= most and all([owner in names for owner in owners])


def grid_times(count, claims, names, most, moment, low, high):
    """All times of the moment in grid worlds that fit with some liar set, ascending, as integers."""
    require_moment(count, moment)
    worlds = [world for world in _all_worlds(count, low, high) if _fits_with_some(claims, names, most, world)]
    return sorted({world[moment][0] for world in worlds})
