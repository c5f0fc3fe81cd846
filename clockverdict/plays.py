"""Plays: a net, the truths of its clocks, and the deeds that happen to them."""

from clockverdict.errors import BadBound, BadRate, BeforeStart, DuplicateName, DuplicateTag, UnknownName, UnknownTag
from clockverdict.exact import ZERO, compare
from clockverdict.spans import span_holds


class Play:
    """A play with a copy of the net, at first without a truth and without a deed."""

    def __init__(self, net, *, most=0):
        self._net = net.clone()
        self._most = most
        self._truths = {}
        self._deeds = []

    @property
    def liar_limit(self):
        """The number of clocks that may lie."""
        return self._most

    def base_net(self):
        """A copy of the net."""
        return self._net.clone()

    def set_truth(self, name, course):
        """Tells what a clock shows at each true time."""
        if name not in self._net.names():
            raise UnknownName(name)
        if name in self._truths:
            raise DuplicateName(name)
        self._truths[name] = list(course)

    def truths(self):
        """The tuples (name, course) of all truths, ascending by name."""
        return [(name, list(self._truths[name])) for name in sorted(self._truths)]

    def truth_of(self, name):
        """The course that was told for a clock."""
        self._require_truth(name)
        return list(self._truths[name])

    def add_send(self, tag, start, goal, *, at, delay):
        """A message that is sent at a time and arrives delay later, or never for None."""
        if self._send_of(tag) is not None:
            raise DuplicateTag(tag)
        self._require_truth(start)
        self._require_truth(goal)
        delays = self._net.delay_of(start, goal)
        self._require_started(start, at)
        self._require_started(goal, at)
        if delay is not None and not span_holds(delays, delay):
            raise BadBound(delay)
        self._deeds.append(("send", tag, start, goal, at, delay))

    def add_again(self, tag, *, delay):
        """One more arrival of a message, delay after it was sent."""
        send = self._send_of(tag)
        if send is None:
            raise UnknownTag(tag)
        if not span_holds(self._net.delay_of(send[2], send[3]), delay):
            raise BadBound(delay)
        self._deeds.append(("again", tag, delay))

    def add_mark(self, name, *, at):
        """A mark note of a clock."""
        self._require_truth(name)
        self._require_started(name, at)
        self._deeds.append(("mark", name, at))

    def add_step(self, name, *, at, jump):
        """A jump of a clock."""
        self._require_truth(name)
        self._require_started(name, at)
        self._deeds.append(("step", name, at, jump))

    def add_slew(self, name, *, at, rate):
        """A new rate of a clock."""
        self._require_truth(name)
        self._require_started(name, at)
        if compare(rate, ZERO) <= 0:
            raise BadRate(rate)
        self._deeds.append(("slew", name, at, rate))

    def deeds(self):
        """All deeds in the order in which they were added."""
        return list(self._deeds)

    def _send_of(self, tag):
        """The send deed with the tag, or None."""
        for deed in self._deeds:
            if deed[0] == "send" and deed[1] == tag:
                return deed
        return None

    def _require_truth(self, name):
        if name not in self._truths:
            raise UnknownName(name)

    def _require_started(self, name, at):
        """Raises BeforeStart for a time before the first start of the clock's truth."""
        if compare(at, self._truths[name][0][0]) < 0:
            raise BeforeStart(at)
