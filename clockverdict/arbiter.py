"""Arbiters: one clock that hears the notes of all, tells the time by them, and condemns liars."""

from clockverdict.audits import condemn_liars
from clockverdict.errors import BadRate, BeforeStart, TurnsBack
from clockverdict.exact import ONE, compare
from clockverdict.journals import Journal
from clockverdict.notes import require_sound
from clockverdict.seals import Gate, notes_in
from clockverdict.steering import Steering, drift_between, require_not_below_zero


def _drift_of(net, name):
    """The drift of a clock; raises UnknownName if the net does not have it."""
    slow, fast = net.rates_of(name)
    return drift_between(slow, fast)


def _require_slew(slew, drift):
    if compare(slew, ONE) >= 0 or compare(slew, drift) <= 0:
        raise BadRate(slew)


class Arbiter:
    """An arbiter at its own clock, with copies of the net, the layers and the keys."""

    def __init__(self, net, layers, keys, *, own, most=0, slew, error, step_over=None):
        _require_slew(slew, _drift_of(net, own))
        require_not_below_zero(error)
        if step_over is not None:
            require_not_below_zero(step_over)
        self._net = net.clone()
        self._layers = layers.clone()
        self._gate = Gate(keys)
        self._journal = Journal(net, most=most, trusted=[own])
        self._own = own
        self._slew = slew
        self._error = error
        self._step_over = step_over
        # The first tick begins the steering, and each tick keeps its reading here.
        self._steering = None
        self._last = None

    def hear(self, entries):
        """Writes the notes in the entries, and gives their places."""
        self._gate.examine(entries)
        notes = notes_in(entries)
        require_sound(self._net, self._journal.notes() + notes)
        # From here on nothing is refused, so no error leaves the entries heard in part.
        self._gate.admit_all(entries)
        return [self._journal.write(note) for note in notes]

    def tick(self, reading):
        """Takes the time at a reading of the own clock; gives (place, span, shown, error, condemned)."""
        if self._last is not None and compare(reading, self._last) < 0:
            raise TurnsBack(reading)
        place = self._journal.write(("mark", self._own, reading))
        span = self._journal.told(place)
        if self._steering is None:
            self._steering = self._begun_at(reading)
        self._last = reading
        self._steering.steer(reading, span)
        condemned = [] if span is None else condemn_liars(self._layers, self._journal.roles())
        return (place, span, self._steering.display(reading), self._steering.error_at(reading), condemned)

    def notes(self):
        """All notes, those that were heard and the marks of ticks."""
        return self._journal.notes()

    def roles(self):
        """The role of each suspect."""
        return self._journal.roles()

    def display(self, raw):
        """What the display shows at a reading of the own clock."""
        if self._steering is None:
            raise BeforeStart(raw)
        return self._steering.display(raw)

    def leader(self):
        """The own clock's parent in the layers, or None."""
        if self._own not in self._layers.names():
            return None
        return self._layers.parent_of(self._own)

    def table(self):
        """The table of the layers."""
        return self._layers.table()

    def _begun_at(self, reading):
        """A steering that begins at the reading."""
        drift = _drift_of(self._net, self._own)
        return Steering(reading, reading, self._error, slew=self._slew, drift=drift, step_over=self._step_over)
