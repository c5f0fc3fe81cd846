"""What the tests of worlds and bounds share: claims, and the points 22 to 28 written apart from the program."""

from fractions import Fraction

from tests.support import fraction, plain_rational, rat, some_rational

OWNERS = ["", "a", "b", "c"]


def honest_claims(rng, count, many):
    """Claims that a world fits, but for those of the owner "c", which need not hold."""
    times = [Fraction(0)] + [fraction(some_rational(rng)) for _ in range(count - 1)]
    claims = []
    for _ in range(many):
        a, b = rng.randrange(count), rng.randrange(count)
        owner = rng.choice(OWNERS)
        slack = fraction(some_rational(rng, 0, 6))
        if owner == "c":
            slack = fraction(some_rational(rng, -9, 6))
        claims.append((a, b, rat(times[b] - times[a] + slack), owner))
    return claims


def any_claims(rng, count, many):
    return [(rng.randrange(count), rng.randrange(count), some_rational(rng, -4, 12), rng.choice(OWNERS))
            for _ in range(many)]


def cases(rng, many, most_moments=6):
    """Tuples (count, claims, liars), liars as a list or as a tuple."""
    found = []
    for _ in range(many):
        count = rng.randint(1, most_moments)
        make = rng.choice([honest_claims, honest_claims, any_claims])
        claims = make(rng, count, rng.randint(0, 3 * count))
        names = rng.sample(["a", "b", "c", "zz"], rng.randint(0, 2))
        found.append((count, claims, rng.choice([list, tuple])(names)))
    return found


def live(claims, liars):
    return [claim for claim in claims if claim[3] not in liars]


def holds(claim, world):
    a, b, w, _ = claim
    return fraction(world[b]) - fraction(world[a]) <= fraction(w)


def plain_world(count, claims, value, liars=()):
    if type(value) is not list or len(value) != count or not all([plain_rational(t) for t in value]):
        return False
    return value[0] == (0, 1) and all([holds(claim, value) for claim in live(claims, liars)])


def plain_way(claims, value, start, goal, liars=()):
    if type(value) is not list or start < 0:
        return False
    for at in value:
        if type(at) is not int or at < 0 or at >= len(claims) or claims[at][3] in liars:
            return False
        if claims[at][0] != start:
            return False
        start = claims[at][1]
    return start == goal


def plain_sum(claims, way):
    return sum([fraction(claims[at][2]) for at in way], Fraction(0))


def plain_ring(claims, value, liars=()):
    if type(value) is not list or not value or type(value[0]) is not int or not 0 <= value[0] < len(claims):
        return False
    start = claims[value[0]][0]
    return plain_way(claims, value, start, start, liars) and plain_sum(claims, value) < 0


def plain_bounds(count, claims, liars=()):
    """The least sums of ways between all moments, None for no way; None as a whole if no world fits."""
    best = [[Fraction(0) if a == b else None for b in range(count)] for a in range(count)]
    for a, b, w, _ in live(claims, liars):
        if best[a][b] is None or fraction(w) < best[a][b]:
            best[a][b] = fraction(w)
    for k in range(count):
        for a in range(count):
            for b in range(count):
                if best[a][k] is not None and best[k][b] is not None:
                    found = best[a][k] + best[k][b]
                    if best[a][b] is None or found < best[a][b]:
                        best[a][b] = found
    if min([best[a][a] for a in range(count)]) < 0:
        return None
    return [[None if end is None else rat(end) for end in row] for row in best]


def plain_span(bounds, moment):
    low = bounds[moment][0]
    return (None if low is None else rat(-fraction(low)), bounds[0][moment])


def plain_cut(count, claims, value, inside, outside, liars=()):
    if type(value) is not list or not all([type(m) is int and 0 <= m < count for m in value]):
        return False
    if any([a >= b for a, b in zip(value, value[1:])]) or inside not in value or outside in value:
        return False
    return not any([a in value and b not in value for a, b, _, _ in live(claims, liars)])


def plain_certificate(count, claims, moment, value, liars=()):
    bounds = plain_bounds(count, claims, liars)
    if bounds is None or type(value) is not tuple or len(value) != 3:
        return False
    low, high = plain_span(bounds, moment)
    # repr tells True from 1.
    if repr(value[0]) != repr((low, high)):
        return False
    for side, end, start, goal in [(value[1], high, 0, moment), (value[2], low, moment, 0)]:
        if type(side) is not tuple or len(side) != 3 or not plain_world(count, claims, side[2], liars):
            return False
        if end is None:
            if side[0] != "cut" or not plain_cut(count, claims, side[1], start, goal, liars):
                return False
        else:
            if side[0] != "way" or not plain_way(claims, side[1], start, goal, liars) or side[2][moment] != end:
                return False
            if rat(plain_sum(claims, side[1])) != bounds[start][goal]:
                return False
    return True
