"""Courses: lists of pieces (start, shown, rate) that tell what a clock shows."""

from clockverdict.errors import BadRate, BeforeStart, EmptySpan, TurnsBack
from clockverdict.exact import ZERO, add, compare, distance, divide, is_rational, larger
from clockverdict.exact import multiply, smaller, subtract


def _is_piece(value):
    if not isinstance(value, tuple) or len(value) != 3:
        return False
    for part in value:
        if not is_rational(part):
            return False
    return compare(value[2], ZERO) > 0


def is_course(value):
    """True if value is a list of pieces with ascending starts and rates above zero, at least one."""
    if not isinstance(value, list) or not value:
        return False
    before = None
    for piece in value:
        if not _is_piece(piece):
            return False
        if before is not None and compare(before, piece[0]) >= 0:
            return False
        before = piece[0]
    return True


def _shown_by(piece, t):
    start, shown, rate = piece
    return add(shown, multiply(rate, subtract(t, start)))


def _time_of(piece, reading):
    start, shown, rate = piece
    return add(start, divide(subtract(reading, shown), rate))


def _end_of(course, at):
    """The start of the piece behind, or None for the last piece."""
    return course[at + 1][0] if at + 1 < len(course) else None


def _place_at(course, t):
    """The index of the piece in force at t, below 0 before the first start."""
    place = -1
    for start, shown, rate in course:
        if compare(start, t) > 0:
            break
        place += 1
    return place


def _piece_at(course, t):
    place = _place_at(course, t)
    if place < 0:
        raise BeforeStart(t)
    return course[place]


def shown_at(course, t):
    """What the clock shows at time t."""
    return _shown_by(_piece_at(course, t), t)


def times_of(course, reading):
    """All times at which the clock shows the reading, ascending."""
    found = []
    for at, piece in enumerate(course):
        t = _time_of(piece, reading)
        end = _end_of(course, at)
        if compare(t, piece[0]) >= 0 and (end is None or compare(t, end) < 0):
            found.append(t)
    return found


def _jump_at(course, at):
    """The jump at the start of a piece that is not the first one; it may be zero."""
    piece = course[at]
    return subtract(piece[1], _shown_by(course[at - 1], piece[0]))


def jumps(course):
    """The tuples (start, jump) of all jumps, ascending by start."""
    found = []
    for at in range(1, len(course)):
        jump = _jump_at(course, at)
        if jump != ZERO:
            found.append((course[at][0], jump))
    return found


def tidy(course):
    """The course without the pieces that continue the one before them."""
    kept = [course[0]]
    for at in range(1, len(course)):
        if course[at][2] != course[at - 1][2] or _jump_at(course, at) != ZERO:
            kept.append(course[at])
    return kept


def runs_within(course, slow, fast):
    """True if the course has no jump and each rate is from slow to fast."""
    if jumps(course):
        return False
    for start, shown, rate in course:
        if compare(rate, slow) < 0 or compare(rate, fast) > 0:
            return False
    return True


def _ahead_of(course, t):
    return [piece for piece in course if compare(piece[0], t) < 0]


def slewed(course, t, rate):
    """The tidy course that runs at the rate from t on, and shows the same before t and at t."""
    shown = shown_at(course, t)
    if compare(rate, ZERO) <= 0:
        raise BadRate(rate)
    return tidy(_ahead_of(course, t) + [(t, shown, rate)])


def stepped(course, t, jump):
    """The tidy course that shows the same before t, and jump more from t on."""
    piece = _piece_at(course, t)
    changed = _ahead_of(course, t)
    changed.append((t, add(_shown_by(piece, t), jump), piece[2]))
    for start, shown, rate in course:
        if compare(start, t) > 0:
            changed.append((start, add(shown, jump), rate))
    return tidy(changed)


def _require_no_way_back(course):
    for start, jump in jumps(course):
        if compare(jump, ZERO) < 0:
            raise TurnsBack(start)


def _chained_piece(piece, end, outer):
    """The pieces of what outer shows while one piece of the inner course, up to end, is in force."""
    start, shown, rate = piece
    first = _place_at(outer, shown)
    found = [(start, _shown_by(outer[first], shown), multiply(rate, outer[first][2]))]
    for goal, told, outer_rate in outer[first + 1:]:
        t = _time_of(piece, goal)
        if end is not None and compare(t, end) >= 0:
            break
        found.append((t, told, multiply(rate, outer_rate)))
    return found


def chained(inner, outer):
    """The tidy course that shows at each time what outer shows at what inner shows."""
    _require_no_way_back(inner)
    first_shown = inner[0][1]
    if compare(first_shown, outer[0][0]) < 0:
        raise BeforeStart(first_shown)
    pieces = []
    for at, piece in enumerate(inner):
        pieces.extend(_chained_piece(piece, _end_of(inner, at), outer))
    return tidy(pieces)


def worst_error(course, start, end):
    """The least rational that no distance of t from what is shown at t exceeds, for t from start to end."""
    if compare(start, course[0][0]) < 0:
        raise BeforeStart(start)
    if compare(start, end) > 0:
        raise EmptySpan(start, end)
    worst = ZERO
    for at, piece in enumerate(course):
        stop = _end_of(course, at)
        if compare(piece[0], end) > 0 or (stop is not None and compare(stop, start) <= 0):
            continue
        # A piece runs straight, so the distance is greatest at one of its two borders; the later
        # border counts also where the next piece is in force there already.
        first = larger(piece[0], start)
        last = end if stop is None else smaller(stop, end)
        for t in (first, last):
            worst = larger(worst, distance(t, _shown_by(piece, t)))
    return worst


def require_rates(slow, fast):
    """Raises BadRate for rate bounds that no clock has."""
    if compare(slow, ZERO) <= 0:
        raise BadRate(slow)
    if compare(fast, slow) < 0:
        raise BadRate(fast)


def elapsed(d, slow, fast):
    """The span of the true time from one reading to another that is d more."""
    require_rates(slow, fast)
    if compare(d, ZERO) < 0:
        return (divide(d, slow), divide(d, fast))
    return (divide(d, fast), divide(d, slow))
