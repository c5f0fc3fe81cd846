"""Nets: clocks with told bounds, and links with told delays between them."""

from clockverdict.courses import require_rates
from clockverdict.errors import BadBound, BadLink, BadName, DuplicateName, UnknownLink, UnknownName
from clockverdict.exact import ZERO, compare

_LETTERS = "abcdefghijklmnopqrstuvwxyz"
_DIGITS = "0123456789"
_MOST_SIGNS = 8


def is_name(value):
    """True if value is a string of point 8: a lowercase letter, then up to seven letters or digits."""
    if not isinstance(value, str) or not value or len(value) > _MOST_SIGNS:
        return False
    if value[0] not in _LETTERS:
        return False
    return all([sign in _LETTERS or sign in _DIGITS for sign in value])


class Net:
    """A net of clocks and links, at first without any."""

    def __init__(self):
        self._clocks = {}
        self._links = {}

    def add_clock(self, name, *, slow=(1, 1), fast=(1, 1), error=None):
        """Adds a clock with rate bounds and an error bound or None."""
        if not is_name(name):
            raise BadName(name)
        if name in self._clocks:
            raise DuplicateName(name)
        require_rates(slow, fast)
        if error is not None and compare(error, ZERO) < 0:
            raise BadBound(error)
        self._clocks[name] = (slow, fast, error)

    def add_link(self, start, goal, *, low=(0, 1), high=None):
        """Adds a link from one clock to another with a span of delays."""
        self._require_clock(start)
        self._require_clock(goal)
        if start == goal or (start, goal) in self._links:
            raise BadLink(start, goal)
        if compare(low, ZERO) < 0:
            raise BadBound(low)
        if high is not None and compare(high, low) < 0:
            raise BadBound(high)
        self._links[(start, goal)] = (low, high)

    def names(self):
        """The names of all clocks, ascending."""
        return sorted(self._clocks)

    def links(self):
        """The tuples (start, goal) of all links, ascending."""
        return sorted(self._links)

    def rates_of(self, name):
        """The rate bounds (slow, fast) of a clock."""
        self._require_clock(name)
        slow, fast, error = self._clocks[name]
        return (slow, fast)

    def error_of(self, name):
        """The error bound of a clock, or None."""
        self._require_clock(name)
        return self._clocks[name][2]

    def has_link(self, start, goal):
        """True if there is a link from start to goal."""
        return (start, goal) in self._links

    def delay_of(self, start, goal):
        """The span of delays of a link."""
        self._require_clock(start)
        self._require_clock(goal)
        if not self.has_link(start, goal):
            raise UnknownLink(start, goal)
        return self._links[(start, goal)]

    def clone(self):
        """A new net with the same clocks and links."""
        twin = Net()
        for name in self.names():
            slow, fast, error = self._clocks[name]
            twin.add_clock(name, slow=slow, fast=fast, error=error)
        for start, goal in self.links():
            low, high = self._links[(start, goal)]
            twin.add_link(start, goal, low=low, high=high)
        return twin

    def _require_clock(self, name):
        if name not in self._clocks:
            raise UnknownName(name)
