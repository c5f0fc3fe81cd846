"""Layers of servers: who follows whom towards a root, and by how much the error grows."""

from clockverdict.courses import require_rates
from clockverdict.errors import BadBound, BadLink, BadName, Condemned, DuplicateName, RootFollows, UnknownLink
from clockverdict.errors import UnknownName
from clockverdict.exact import ZERO, add, compare, is_rational, is_whole
from clockverdict.nets import Net, is_name


def _is_less(a, b):
    """True if the rank a is less than the rank b."""
    way = compare(a[0], b[0])
    return way < 0 or (way == 0 and a[1] < b[1])


def _rank_by(ranks, parent, hop):
    """The rank of the chain over an offer of the parent."""
    error, length = ranks[parent]
    return (add(error, hop), length + 1)


def _ranks_of(roots, offers):
    """A dict from each server with a chain to its rank."""
    ranks = {name: (error, 0) for name, error in roots}
    moved = True
    while moved:
        moved = False
        for child, parent, hop in offers:
            if parent not in ranks:
                continue
            found = _rank_by(ranks, parent, hop)
            if child not in ranks or _is_less(found, ranks[child]):
                ranks[child] = found
                moved = True
    return ranks


def _parent_in(ranks, offers, name):
    """The least name of a parent that gives the server its rank, or None for a root."""
    fits = []
    for child, parent, hop in offers:
        if child == name and parent in ranks and _rank_by(ranks, parent, hop) == ranks[name]:
            fits.append(parent)
    return min(fits) if fits else None


def settled(roots, offers):
    """The table of the roots and offers."""
    ranks = _ranks_of(roots, offers)
    return [(name, ranks[name][0], ranks[name][1], _parent_in(ranks, offers, name)) for name in sorted(ranks)]


def _is_row(value):
    """True if value has the form of a row of a table."""
    if not isinstance(value, tuple) or len(value) != 4:
        return False
    # The comparison with the table takes True for 1, so the kinds are looked at here.
    return is_rational(value[1]) and is_whole(value[2])


def is_settled(roots, offers, value):
    """True if value is the table of these roots and offers."""
    if not isinstance(value, list) or not all([_is_row(row) for row in value]):
        return False
    return value == settled(roots, offers)


class Layers:
    """Servers with their states and offers, at first without any."""

    def __init__(self):
        # The error of each root; None for a server that is no root.
        self._errors = {}
        self._states = {}
        self._hops = {}

    def add_root(self, name, *, error=(0, 1)):
        """Adds a root with its own error."""
        self._require_new(name)
        if compare(error, ZERO) < 0:
            raise BadBound(error)
        self._errors[name] = error
        self._states[name] = "live"

    def add_server(self, name):
        """Adds a server that is no root."""
        self._require_new(name)
        self._errors[name] = None
        self._states[name] = "live"

    def offer(self, child, parent, *, hop=(0, 1)):
        """Adds an offer, or replaces its hop."""
        self._require_server(child)
        if self._errors[child] is not None:
            raise RootFollows(child)
        self._require_server(parent)
        if child == parent:
            raise BadLink(child, parent)
        if compare(hop, ZERO) < 0:
            raise BadBound(hop)
        self._hops[(child, parent)] = hop

    def withdraw(self, child, parent):
        """Removes an offer."""
        self._require_server(child)
        self._require_server(parent)
        if (child, parent) not in self._hops:
            raise UnknownLink(child, parent)
        del self._hops[(child, parent)]

    def silence(self, name):
        """Makes a server silent."""
        self._require_not_condemned(name)
        self._states[name] = "silent"

    def wake(self, name):
        """Makes a server live."""
        self._require_not_condemned(name)
        self._states[name] = "live"

    def condemn(self, name):
        """Makes a server condemned, for ever."""
        self._require_server(name)
        self._states[name] = "condemned"

    def state_of(self, name):
        """The state of a server."""
        self._require_server(name)
        return self._states[name]

    def error_of(self, name):
        """The error of the server's rank, or None."""
        return self._row_of(name)[1]

    def layer_of(self, name):
        """The layer of a server, or None."""
        return self._row_of(name)[2]

    def parent_of(self, name):
        """The parent of a server, or None."""
        return self._row_of(name)[3]

    def way_of(self, name):
        """The names from the server along parents to a root."""
        self._require_server(name)
        parents = {row[0]: row[3] for row in self.table()}
        way = []
        follower = name if name in parents else None
        while follower is not None:
            way.append(follower)
            follower = parents[follower]
        return way

    def followers_of(self, name):
        """The servers whose parent it is, ascending."""
        self._require_server(name)
        return [row[0] for row in self.table() if row[3] == name]

    def names(self):
        """All servers, ascending."""
        return sorted(self._states)

    def table(self):
        """The table of all roots and offers that count."""
        roots = [(name, error) for name, error in self._errors.items() if error is not None and self._is_live(name)]
        offers = []
        for (child, parent), hop in self._hops.items():
            if self._is_live(child) and self._is_live(parent):
                offers.append((child, parent, hop))
        return settled(roots, offers)

    def clone(self):
        """A new object with the same servers, states and offers."""
        twin = Layers()
        twin._errors = dict(self._errors)
        twin._states = dict(self._states)
        twin._hops = {pair: self._hops[pair] for pair in self._hops}
        return twin

    def _is_live(self, name):
        return self._states[name] == "live"

    def _row_of(self, name):
        """The server's row of the table; without a rank a row of None."""
        self._require_server(name)
        for row in self.table():
            if row[0] == name:
                return row
        return (name, None, None, None)

    def _require_new(self, name):
        if not is_name(name):
            raise BadName(name)
        if name in self._states:
            raise DuplicateName(name)

    def _require_server(self, name):
        if name not in self._states:
            raise UnknownName(name)

    def _require_not_condemned(self, name):
        self._require_server(name)
        if self._states[name] == "condemned":
            raise Condemned(name)


def layered_net(layers, *, slow=(1, 1), fast=(1, 1)):
    """A net without links that has a clock with the server's error for each server."""
    require_rates(slow, fast)
    net = Net()
    for name in layers.names():
        net.add_clock(name, slow=slow, fast=fast, error=layers.error_of(name))
    return net
