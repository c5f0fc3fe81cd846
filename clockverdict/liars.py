"""Liar sets: excuses, the roles of suspects, and cases against all liar sets."""

from itertools import combinations

from clockverdict.errors import TooManyLiars
from clockverdict.worlds import is_ring, settle

_MOST_RINGS = 64


def _sets_of_size(names, size):
    return list(combinations(names, size))


def small_sets(names, most):
    """All ascending tuples of at most most suspects, by size and then as tuples."""
    ordered = sorted(names)
    for size in range(min(most, len(ordered)) + 1):
        for chosen in _sets_of_size(ordered, size):
            yield chosen


def largest_sets(names, most):
    """The liar sets that have as many members as possible, in order."""
    return _sets_of_size(sorted(names), min(most, len(names)))


def first_excuse(count, claims, sets):
    """The first one of the liar sets with which a world fits, and that world, as a tuple, or None."""
    for chosen in sets:
        kind, found = settle(count, claims, liars=chosen)
        if kind == "world":
            return (chosen, found)
    return None


def _is_excuse(count, claims, chosen):
    kind, found = settle(count, claims, liars=chosen)
    return kind == "world"


def excuses(count, claims, names, most):
    """All excuses, in the order of the liar sets."""
    return [chosen for chosen in small_sets(names, most) if _is_excuse(count, claims, chosen)]


def _is_within(few, many):
    return all([name in many for name in few])


def least_excuses(count, claims, names, most):
    """The excuses in which no other one is contained, in the same order."""
    least = []
    for excuse in excuses(count, claims, names, most):
        if not any([_is_within(other, excuse) for other in least]):
            least.append(excuse)
    return least


def _role_of(name, found):
    """The role of a suspect whom all these excuses make."""
    hits = len([excuse for excuse in found if name in excuse])
    if hits == len(found):
        return "liar"
    return "honest" if hits == 0 else "open"


def roles(count, claims, names, most):
    """The role of each suspect."""
    found = excuses(count, claims, names, most)
    if not found:
        raise TooManyLiars(case_against(count, claims, names, most))
    return {name: _role_of(name, found) for name in sorted(names)}


def least_count(count, claims, names):
    """The least size of a set of suspects with which a world fits, or None."""
    sets = list(small_sets(names, len(names)))
    found = first_excuse(count, claims, sets)
    return None if found is None else len(found[0])


def _is_clear_of(claims, ring, chosen):
    """True if no member of the liar set owns a claim of the ring."""
    return all([claims[at][3] not in chosen for at in ring])


def case_against(count, claims, names, most, *, liars=()):
    """A list of rings of live claims, one of them clear of each liar set, or None if there is none."""
    rings = []
    # A ring that is clear of a liar set is clear of each smaller one within it.
    for chosen in largest_sets(names, most):
        if any([_is_clear_of(claims, ring, chosen) for ring in rings]):
            continue
        kind, found = settle(count, claims, liars=chosen + tuple(liars))
        if kind == "world":
            return None
        rings.append(found)
    return rings


def is_case(claims, names, most, value, *, liars=()):
    """True if value is a list of rings of live claims such that each liar set has a ring clear of it."""
    if not isinstance(value, list) or len(value) > _MOST_RINGS:
        return False
    if not all([is_ring(claims, ring, liars=liars) for ring in value]):
        return False
    for chosen in largest_sets(names, most):
        if not any([_is_clear_of(claims, ring, chosen) for ring in value]):
            return False
    return True
