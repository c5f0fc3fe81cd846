"""All errors of the package, each directly below VerdictError."""


class VerdictError(ValueError):
    """Any failure that the package names."""


class ZeroDivisor(VerdictError):
    """A division by zero."""


class BadNumber(VerdictError):
    """A text that is not the written form of a rational."""

    def __init__(self, text):
        self.text = text


class EmptySpan(VerdictError):
    """A low end that is above the high end."""

    def __init__(self, low, high):
        self.low = low
        self.high = high


class BeforeStart(VerdictError):
    """A time or a reading before the first one that counts."""

    def __init__(self, value):
        self.value = value


class TurnsBack(VerdictError):
    """A place from which something would run backwards."""

    def __init__(self, value):
        self.value = value


class BadRate(VerdictError):
    """A rate out of its bounds."""

    def __init__(self, value):
        self.value = value


class BadBound(VerdictError):
    """A bound, a delay or a like number out of its range."""

    def __init__(self, value):
        self.value = value


class BadName(VerdictError):
    """A string that is no name."""

    def __init__(self, value):
        self.value = value


class DuplicateName(VerdictError):
    """A name that is there already."""

    def __init__(self, name):
        self.name = name


class UnknownName(VerdictError):
    """A name that nothing has."""

    def __init__(self, name):
        self.name = name


class BadLink(VerdictError):
    """A link or an offer that cannot be added."""

    def __init__(self, start, goal):
        self.start = start
        self.goal = goal


class UnknownLink(VerdictError):
    """A link or an offer that is not there."""

    def __init__(self, start, goal):
        self.start = start
        self.goal = goal


class BadNote(VerdictError):
    """A note with a fault, by its place in the list."""

    def __init__(self, place, reason):
        self.place = place
        self.reason = reason


class UnknownMoment(VerdictError):
    """A moment that is not from 0 to count - 1."""

    def __init__(self, moment):
        self.moment = moment


class NoWorld(VerdictError):
    """Claims that no world fits, with a ring that shows it."""

    def __init__(self, ring):
        self.ring = list(ring)


class OutsideSpan(VerdictError):
    """A time that is not in the narrowest span."""

    def __init__(self, value):
        self.value = value


class TooManyLiars(VerdictError):
    """Claims without an excuse, with a case that shows it."""

    def __init__(self, rings):
        self.rings = [list(ring) for ring in rings]


class RootFollows(VerdictError):
    """A root that would be the child of an offer."""

    def __init__(self, name):
        self.name = name


class Condemned(VerdictError):
    """A server that is condemned and stays so."""

    def __init__(self, name):
        self.name = name


class BadDate(VerdictError):
    """What is no date."""

    def __init__(self, value):
        self.value = value


class BadLeap(VerdictError):
    """A leap of a wrong kind, or a second one for its day."""

    def __init__(self, day):
        self.day = day


class BadLabel(VerdictError):
    """A text that is not the label text of a time."""

    def __init__(self, text):
        self.text = text


class NoSuchSecond(VerdictError):
    """A second that the day does not have."""

    def __init__(self, day, second):
        self.day = day
        self.second = second


class BadCells(VerdictError):
    """Cells that are not the cells of a note."""


class RefusedEntry(VerdictError):
    """An entry that a gate refuses, by its place in the list."""

    def __init__(self, place, reason):
        self.place = place
        self.reason = reason


class DuplicateTag(VerdictError):
    """A tag that a send deed has already."""

    def __init__(self, tag):
        self.tag = tag


class UnknownTag(VerdictError):
    """A tag that no send deed has."""

    def __init__(self, tag):
        self.tag = tag


class BadLine(VerdictError):
    """A bad line in the text of a play, and its first bad word."""

    def __init__(self, line, word):
        self.line = line
        self.word = word


class NothingToUndo(VerdictError):
    """No note that may be taken back."""


class NothingToRedo(VerdictError):
    """No note that may be brought back."""
