"""Steering: a display that follows spans of true time by small changes of its rate."""

from clockverdict.courses import require_rates, shown_at, tidy
from clockverdict.errors import BadBound, BadRate, TurnsBack
from clockverdict.exact import HALF, ONE, ZERO, add, compare, distance, divide, floor_of, larger
from clockverdict.exact import multiply, subtract
from clockverdict.spans import far_end, meet, middle_of, width_of


def drift_between(slow, fast):
    """The drift of a clock with these rate bounds."""
    require_rates(slow, fast)
    return larger(distance(ONE, divide(ONE, fast)), distance(ONE, divide(ONE, slow)))


def require_not_below_zero(bound):
    """Raises BadBound for a bound below zero."""
    if compare(bound, ZERO) < 0:
        raise BadBound(bound)


def _require_slew_and_drift(slew, drift):
    if compare(slew, ZERO) <= 0 or compare(slew, ONE) >= 0:
        raise BadRate(slew)
    if compare(drift, ZERO) < 0 or compare(drift, slew) >= 0:
        raise BadRate(drift)


def _require_lap(bound, half, lap, slew, drift):
    require_not_below_zero(bound)
    require_not_below_zero(half)
    if compare(lap, ZERO) <= 0:
        raise BadBound(lap)
    _require_slew_and_drift(slew, drift)


def _bound_behind(bound, half, raw_units, slew, drift):
    """What a bound becomes while the raw clock advances and the display is steered."""
    rest = larger(subtract(bound, multiply(slew, raw_units)), half)
    return add(multiply(drift, raw_units), rest)


def bound_after(bound, half, *, lap, slew, drift):
    """The bound after one lap."""
    _require_lap(bound, half, lap, slew, drift)
    return _bound_behind(bound, half, lap, slew, drift)


def laps_until(bound, half, goal, *, lap, slew, drift):
    """The least number of laps after which the bound is at most goal, or None."""
    _require_lap(bound, half, lap, slew, drift)
    if compare(bound, goal) <= 0:
        return 0
    if compare(goal, add(half, multiply(drift, lap))) < 0:
        return None
    gain = multiply(subtract(slew, drift), lap)
    # Rounded up: minus the floor of the negative.
    return -floor_of(divide(subtract(goal, bound), gain))


def _planned(raw, shown, aim, slew):
    """The pieces of a display that comes from shown, at raw, to the aim."""
    way = compare(aim, shown)
    if way == 0:
        return [(raw, shown, ONE)]
    rate = add(ONE, slew) if way > 0 else subtract(ONE, slew)
    needed = divide(distance(aim, shown), slew)
    return [(raw, shown, rate), (add(raw, needed), add(aim, needed), ONE)]


class Steering:
    """A steering that begins at a raw reading with a display and the first error."""

    def __init__(self, raw, shown, error, *, slew, drift=(0, 1), step_over=None):
        require_not_below_zero(error)
        _require_slew_and_drift(slew, drift)
        if step_over is not None:
            require_not_below_zero(step_over)
        self._slew = slew
        self._drift = drift
        self._step_over = step_over
        self._course = [(raw, shown, ONE)]
        self._aim = None
        # At x raw units behind _last the error bound is drift * x plus the larger of
        # _bound - slew * x and _half; with both of them equal nothing is made up for.
        self._last = raw
        self._bound = error
        self._half = error

    def steer(self, raw, span):
        """Steers at the raw reading with a span or None."""
        bound = self.error_at(raw)
        shown = shown_at(self._course, raw)
        if span is None or width_of(span) is None:
            self._plan(raw, [(raw, shown, ONE)], None, bound, bound)
            return
        known = meet(span, (subtract(shown, bound), add(shown, bound)))
        if known is None:
            known = span
        aim = middle_of(known)
        half = multiply(width_of(known), HALF)
        if self._jumps_to(aim, shown):
            self._plan(raw, [(raw, aim, ONE)], aim, half, half)
        else:
            self._plan(raw, _planned(raw, shown, aim, self._slew), aim, far_end(known, shown), half)

    def _jumps_to(self, aim, shown):
        return self._step_over is not None and compare(subtract(aim, shown), self._step_over) > 0

    def _plan(self, raw, pieces, aim, bound, half):
        kept = [piece for piece in self._course if compare(piece[0], raw) < 0]
        self._course = tidy(kept + pieces)
        self._aim = aim
        self._last = raw
        self._bound = bound
        self._half = half

    @property
    def aim(self):
        """The aim of the last call of steer, or None."""
        return self._aim

    def display(self, raw):
        """What the display shows at the raw reading, as planned."""
        return shown_at(self._course, raw)

    def error_at(self, raw):
        """The error bound at the raw reading."""
        if compare(raw, self._last) < 0:
            raise TurnsBack(raw)
        return _bound_behind(self._bound, self._half, subtract(raw, self._last), self._slew, self._drift)

    def course_of(self):
        """The tidy course of the display over raw readings."""
        return list(self._course)
