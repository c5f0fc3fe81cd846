"""What the tests of liars and verdicts share: claims with liars, and the points 29 to 36 written apart from the program."""

from fractions import Fraction
from itertools import combinations

from tests.claiming import plain_bounds, plain_certificate, plain_ring, plain_span, plain_world
from tests.covering import plain_normal
from tests.support import fraction, rat, some_rational

NAMES = ["c", "a", "e", "b", "d"]


def lying_claims(rng, count, names):
    """Claims of a true world, some of them false: of a few owners alone, or now and then of anybody."""
    times = [Fraction(0)] + [fraction(some_rational(rng, -9, 9, 2)) for _ in range(count - 1)]
    liars = rng.sample(names, min(len(names), rng.randint(0, 3))) + rng.choice([[], [], [], [""], ["zz"]])
    claims = []
    for _ in range(rng.randint(0, 3 * count + 3)):
        a, b = rng.randrange(count), rng.randrange(count)
        owner = rng.choice(names + ["", "zz"]) if names else rng.choice(["", "zz"])
        low = -12 if owner in liars else 0
        slack = fraction(some_rational(rng, low, 4, 2))
        claims.append((a, b, rat(times[b] - times[a] + slack), owner))
    return claims


def liar_cases(rng, many, most_moments=4):
    """Tuples (count, claims, names, most); some suspects own nothing, and "zz" is an owner that is no suspect."""
    found = []
    for _ in range(many):
        count = rng.randint(1, most_moments)
        names = rng.sample(NAMES, rng.randint(0, 4))
        claims = lying_claims(rng, count, names)
        names = names + rng.choice([[], [], ["x"]])
        rng.shuffle(names)
        found.append((count, claims, names, rng.randint(0, 3)))
    return found


def sets_of(names, most):
    """All liar sets, in the order of point 29."""
    return [chosen for size in range(most + 1) for chosen in sorted(combinations(sorted(names), size))]


def full_sets(names, most):
    return [chosen for chosen in sets_of(names, most) if len(chosen) == min(most, len(names))]


def excuses_of(count, claims, names, most, liars=()):
    return [chosen for chosen in sets_of(names, most)
            if plain_bounds(count, claims, tuple(liars) + chosen) is not None]


def roles_of(found, names):
    told = {}
    for name in sorted(names):
        hits = [name in excuse for excuse in found]
        told[name] = "liar" if all(hits) else "open" if any(hits) else "honest"
    return told


def left_of(count, claims, names, most, moment):
    """The normal form of the times left, over all excuses."""
    spans = []
    for excuse in excuses_of(count, claims, names, most):
        spans.append(plain_span(plain_bounds(count, claims, excuse), moment))
    return plain_normal(spans)


def least_of(count, claims, names):
    found = excuses_of(count, claims, names, len(names))
    return len(found[0]) if found else None


def owners_in(claims, ring):
    return {claims[at][3] for at in ring}


def plain_case(claims, names, most, value, liars=()):
    if type(value) is not list or not 1 <= len(value) <= 64:
        return False
    if not all([plain_ring(claims, ring, liars) for ring in value]):
        return False
    return all([any([not owners_in(claims, ring) & set(chosen) for ring in value]) for chosen in sets_of(names, most)])


def good_case(claims, names, most, value, count, liars=()):
    """A case as a function may return it: with short rings, all of them different."""
    rings = [tuple(ring) for ring in value]
    return (plain_case(claims, names, most, value, liars) and len(set(rings)) == len(rings)
            and max([len(ring) for ring in rings]) <= count)


def has_shape(value, size, kind):
    return type(value) is tuple and len(value) == size and type(value[0]) is str and value[0] == kind


def is_set_of(value, sets):
    return type(value) is tuple and all([type(name) is str for name in value]) and value in sets


def plain_left_item(count, claims, moment, chosen, value):
    if type(value) is not tuple or len(value) != 3 or not is_set_of(value[0], [chosen]) or type(value[1]) is not str:
        return False
    if value[1] == "ring":
        return plain_ring(claims, value[2], chosen)
    return value[1] == "span" and plain_certificate(count, claims, moment, value[2], chosen)


def plain_left(count, claims, names, most, moment, value):
    sets = full_sets(names, most)
    if type(value) is not list or len(value) != len(sets):
        return False
    return all([plain_left_item(count, claims, moment, chosen, item) for chosen, item in zip(sets, value)])


def plain_pinned(claims, moment, at):
    return claims + [(0, moment, at, ""), (moment, 0, rat(-fraction(at)), "")]


def plain_time(count, claims, names, most, moment, at, value):
    if has_shape(value, 3, "world"):
        return (is_set_of(value[1], sets_of(names, most)) and plain_world(count, claims, value[2], value[1])
                and value[2][moment] == at)
    return has_shape(value, 2, "case") and plain_case(plain_pinned(claims, moment, at), names, most, value[1])


def plain_side(count, claims, names, most, name, value, inside):
    """"world" or "case" if value is that side of a role certificate, otherwise None."""
    others = [other for other in names if other != name]
    sets = [chosen for chosen in sets_of(names, most) if (name in chosen) == inside]
    if has_shape(value, 3, "world") and is_set_of(value[1], sets) and plain_world(count, claims, value[2], value[1]):
        return "world"
    if not has_shape(value, 2, "case"):
        return None
    if not inside:
        right = plain_case(claims, others, most, value[1])
    elif most == 0:
        right = type(value[1]) is list and value[1] == []
    else:
        right = plain_case(claims, others, most - 1, value[1], [name])
    return "case" if right else None


def plain_role(count, claims, names, most, name, value):
    if type(value) is not tuple or len(value) != 3:
        return False
    kinds = [plain_side(count, claims, names, most, name, side, inside) for side, inside in zip(value[1:], (True, False))]
    told = {"open": ["world", "world"], "liar": ["world", "case"], "honest": ["case", "world"]}
    return type(value[0]) is str and value[0] in told and told[value[0]] == kinds


def plain_least(count, claims, names, value):
    if type(value) is not tuple or len(value) != 4:
        return False
    number, excuse, world, rings = value
    if number is None:
        return (type(excuse) is tuple and excuse == () and type(world) is list and world == []
                and plain_case(claims, names, len(names), rings))
    if type(number) is not int or not 0 <= number <= len(names):
        return False
    if not is_set_of(excuse, sets_of(names, len(names))) or len(excuse) != number:
        return False
    if not plain_world(count, claims, world, excuse):
        return False
    if number == 0:
        return type(rings) is list and rings == []
    return plain_case(claims, names, number - 1, rings)
