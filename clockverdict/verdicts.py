"""What is left of true times and roles over all excuses, with certificates that show it."""

from clockverdict.bounds import is_span_certificate, require_moment, span_certificate, span_if_fits
from clockverdict.covers import Cover
from clockverdict.errors import TooManyLiars, UnknownName
from clockverdict.exact import is_whole, negate
from clockverdict.liars import case_against, first_excuse, is_case, largest_sets, small_sets
from clockverdict.worlds import is_ring, is_world, settle

# The role that two sides show, by their kinds: first with the suspect as a liar, then without.
_ROLES = {("world", "world"): "open", ("world", "case"): "liar", ("case", "world"): "honest"}


def pinned(claims, moment, at):
    """The claims, with two more that pin them to the time at the moment."""
    return claims + [(0, moment, at, ""), (moment, 0, negate(at), "")]


def left_by(count, claims, names, most, moment):
    """The cover of the times left for the moment."""
    # More liars leave fewer claims to hold, so the largest liar sets leave all that smaller ones do.
    spans = [span_if_fits(count, claims, moment, chosen) for chosen in largest_sets(names, most)]
    return Cover([span for span in spans if span is not None])


def verdict_span(count, claims, names, most, moment):
    """The least span that holds all times left, or None."""
    return left_by(count, claims, names, most, moment).hull_span()


def left_certificate(count, claims, names, most, moment):
    """For each largest liar set a ring, or a certificate of the narrowest span of the moment."""
    require_moment(count, moment)
    items = []
    for chosen in largest_sets(names, most):
        kind, found = settle(count, claims, liars=chosen)
        if kind == "ring":
            items.append((chosen, "ring", found))
        else:
            items.append((chosen, "span", span_certificate(count, claims, moment, liars=chosen)))
    return items


def _is_left_item(count, claims, chosen, moment, value):
    """True if value is an item of a left certificate for the liar set."""
    if not isinstance(value, tuple) or len(value) != 3:
        return False
    told, kind, proof = value
    if told != chosen:
        return False
    if kind == "ring":
        return is_ring(claims, proof, liars=chosen)
    return kind == "span" and is_span_certificate(count, claims, moment, proof, liars=chosen)


def is_left_certificate(count, claims, names, most, moment, value):
    """True if value is a left certificate of the moment."""
    sets = largest_sets(names, most)
    if not isinstance(value, list) or len(value) != len(sets):
        return False
    return all([_is_left_item(count, claims, chosen, moment, item) for chosen, item in zip(sets, value)])


def _world_side(count, claims, sets):
    """("world", excuse, world) with one of the liar sets, or None."""
    found = first_excuse(count, claims, sets)
    return None if found is None else ("world", found[0], found[1])


def _is_world_side(count, claims, sets, value):
    """True if value is ("world", excuse, world) with one of the liar sets and a world that fits then."""
    if not isinstance(value, tuple) or len(value) != 3:
        return False
    kind, excuse, world = value
    return kind == "world" and excuse in sets and is_world(count, claims, world, liars=excuse)


def _rings_against(count, claims, names, most, liars):
    """A case, or None; the empty list if most is below zero, since no liar set is left to speak against then."""
    return [] if most < 0 else case_against(count, claims, names, most, liars=liars)


def _are_rings_against(claims, names, most, value, liars):
    """True if value is a case, or the empty list if most is below zero."""
    return value == [] if most < 0 else is_case(claims, names, most, value, liars=liars)


def _is_case_side(claims, names, most, value, liars):
    """True if value is ("case", rings)."""
    if not isinstance(value, tuple) or len(value) != 2:
        return False
    kind, rings = value
    return kind == "case" and _are_rings_against(claims, names, most, rings, liars)


def time_certificate(count, claims, names, most, moment, at):
    """A world that shows that the time is left for the moment, or a case that shows that it is not."""
    require_moment(count, moment)
    fixed = pinned(claims, moment, at)
    sets = list(small_sets(names, most))
    side = _world_side(count, fixed, sets)
    return ("case", case_against(count, fixed, names, most)) if side is None else side


def is_time_certificate(count, claims, names, most, moment, at, value):
    """True if value is a time certificate for the moment and the time."""
    fixed = pinned(claims, moment, at)
    sets = list(small_sets(names, most))
    return _is_world_side(count, fixed, sets, value) or _is_case_side(fixed, names, most, value, ())


def _others(names, name):
    return [other for other in names if other != name]


def _sides_of(names, most, name):
    """For the suspect as a liar, and as none: the liar sets, and most and liars of a case against the others."""
    sets = list(small_sets(names, most))
    return (([chosen for chosen in sets if name in chosen], most - 1, (name,)),
            ([chosen for chosen in sets if name not in chosen], most, ()))


def _role_side(count, claims, others, side):
    """A side of a role certificate."""
    sets, limit, liars = side
    found = _world_side(count, claims, sets)
    return ("case", _rings_against(count, claims, others, limit, liars)) if found is None else found


def role_certificate(count, claims, names, most, name):
    """A certificate of the suspect's role."""
    if name not in names:
        raise UnknownName(name)
    others = _others(names, name)
    with_side, without_side = [_role_side(count, claims, others, side) for side in _sides_of(names, most, name)]
    kinds = (with_side[0], without_side[0])
    if kinds not in _ROLES:
        raise TooManyLiars(case_against(count, claims, names, most))
    return (_ROLES[kinds], with_side, without_side)


def _side_kind(count, claims, others, side, value):
    """The kind "world" or "case" if value is such a side of a role certificate, otherwise None."""
    sets, limit, liars = side
    if _is_world_side(count, claims, sets, value):
        return "world"
    return "case" if _is_case_side(claims, others, limit, value, liars) else None


def is_role_certificate(count, claims, names, most, name, value):
    """True if value is a certificate of the suspect's role."""
    if not isinstance(value, tuple) or len(value) != 3:
        return False
    others = _others(names, name)
    with_form, without_form = _sides_of(names, most, name)
    role, with_side, without_side = value
    kinds = (_side_kind(count, claims, others, with_form, with_side),
             _side_kind(count, claims, others, without_form, without_side))
    return kinds in _ROLES and _ROLES[kinds] == role


def least_certificate(count, claims, names):
    """A certificate of the least number of liars."""
    sets = list(small_sets(names, len(names)))
    found = first_excuse(count, claims, sets)
    if found is None:
        return (None, (), [], case_against(count, claims, names, len(names)))
    excuse, world = found
    number = len(excuse)
    return (number, excuse, world, _rings_against(count, claims, names, number - 1, ()))


def is_least_certificate(count, claims, names, value):
    """True if value is a certificate of the least number of liars."""
    if not isinstance(value, tuple) or len(value) != 4:
        return False
    number, excuse, world, rings = value
    if number is None:
        return excuse == () and world == [] and is_case(claims, names, len(names), rings)
    if not is_whole(number) or not 0 <= number <= len(names) or excuse not in largest_sets(names, number):
        return False
    if not is_world(count, claims, world, liars=excuse):
        return False
    return _are_rings_against(claims, names, number - 1, rings, ())
