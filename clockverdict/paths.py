"""Least sums of ways through a list of claims, found by rounds of relaxing."""

from clockverdict.exact import ZERO, add, weights_of


def _steps_of(claims, liars):
    """Tuples (a, b, weight, index) of all live claims; the weights are w times one common factor."""
    live = [at for at, claim in enumerate(claims) if claim[3] not in liars]
    weights = weights_of([claims[at][2] for at in live])
    return [(claims[at][0], claims[at][1], weight, at) for at, weight in zip(live, weights)]


def _relaxed(count, steps, begun):
    """A tuple (reached, came, moved) of what count rounds make of the sums to begin with.

    came has the index of the claim by which each sum was found. moved is a moment that got a
    lesser sum in the last round, or None: a least way passes no moment twice, so without a
    ring nothing moves in the last round.
    """
    reached = list(begun)
    came = [None] * count
    moved = None
    for _ in range(count):
        moved = None
        for a, b, weight, at in steps:
            if reached[a] is None:
                continue
            found = reached[a] + weight
            if reached[b] is None or found < reached[b]:
                reached[b] = found
                came[b] = at
                moved = b
        if moved is None:
            break
    return (reached, came, moved)


def _ring_behind(count, claims, came, moved):
    """The ring on the way back from a moment that still moved in the last round."""
    first = moved
    for _ in range(count):
        first = claims[came[first]][0]
    ring = [came[first]]
    moment = claims[came[first]][0]
    while moment != first:
        ring.append(came[moment])
        moment = claims[came[moment]][0]
    return ring[::-1]


def _exact_sums(count, claims, came, reached):
    """The rational sums of the ways to all moments, None where there is no way."""
    sums = {}
    for goal in range(count):
        moment = goal
        missing = []
        while moment not in sums and came[moment] is not None:
            missing.append(came[moment])
            moment = claims[came[moment]][0]
        if moment not in sums:
            sums[moment] = ZERO
        for at in reversed(missing):
            a, b, w, owner = claims[at]
            sums[b] = add(sums[a], w)
    return [None if reached[moment] is None else sums[moment] for moment in range(count)]


def search_all(count, claims, liars):
    """A tuple (sums, ring): a sum for each moment such that all live claims hold, or None and a ring."""
    reached, came, moved = _relaxed(count, _steps_of(claims, liars), [0] * count)
    if moved is not None:
        return (None, _ring_behind(count, claims, came, moved))
    return (_exact_sums(count, claims, came, reached), None)


def search_from(count, claims, liars, start):
    """A tuple (sums, came) of the least sums of ways from start, where a world fits.

    A sum is None where there is no way. came has the index of the last claim of each least way.
    """
    begun = [None] * count
    begun[start] = 0
    reached, came, _ = _relaxed(count, _steps_of(claims, liars), begun)
    return (_exact_sums(count, claims, came, reached), came)


def way_behind(claims, came, goal):
    """The least way that a search found to the goal."""
    way = []
    moment = goal
    while came[moment] is not None:
        way.append(came[moment])
        moment = claims[came[moment]][0]
    return way[::-1]
