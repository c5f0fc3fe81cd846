"""The text of a play: how it is read, and how a play is printed."""

from clockverdict.errors import BadLine, BadNumber
from clockverdict.exact import ZERO, compare, rational_text, read_rational
from clockverdict.nets import Net, is_name
from clockverdict.notes import is_tag
from clockverdict.plays import Play
from clockverdict.spans import span_holds

_LIMITS = ("0", "1", "2", "3")

# What a check gives for a bad word. The value of a good word is never an empty tuple.
_BAD = ()


class Draft:
    """What the lines of a text have told so far."""

    def __init__(self):
        self.net = Net()
        self.limit = 0
        self.pieces = {}
        self.sends = {}
        self.happened = []
        self.group = 0


def _number(word):
    try:
        return read_rational(word)
    except BadNumber:
        return _BAD


def _number_from(low, word):
    """The number if it is not below low."""
    value = _number(word)
    return value if value != _BAD and compare(value, low) >= 0 else _BAD


def _tag(word):
    value = _number(word)
    return value[0] if value != _BAD and value[1] == 1 and is_tag(value[0]) else _BAD


def _first_start(draft, name):
    return draft.pieces[name][0][0]


def _delay_over(draft, start, goal, word):
    """The delay if it is in the span of the link."""
    value = _number(word)
    return value if value != _BAD and span_holds(draft.net.delay_of(start, goal), value) else _BAD


# Each check of a word takes the draft, the values of the words before this one in its line, and the
# word. It gives the value of the word, or _BAD.

def _any_number(draft, said, word):
    return _number(word)


def _not_negative(draft, said, word):
    return _number_from(ZERO, word)


def _rate(draft, said, word):
    value = _number_from(ZERO, word)
    return _BAD if value == ZERO else value


def _new_name(draft, said, word):
    return word if is_name(word) and word not in draft.net.names() else _BAD


def _fast_rate(draft, said, word):
    return _number_from(said[1], word)


def _error(draft, said, word):
    return None if word == "free" else _number_from(ZERO, word)


def _clock(draft, said, word):
    return word if word in draft.net.names() else _BAD


def _other_clock(draft, said, word):
    if word == said[0] or draft.net.has_link(said[0], word):
        return _BAD
    return _clock(draft, said, word)


def _longest_delay(draft, said, word):
    return None if word == "any" else _number_from(said[2], word)


def _limit(draft, said, word):
    return int(word) if word in _LIMITS else _BAD


def _later_start(draft, said, word):
    value = _number(word)
    pieces = draft.pieces.get(said[0], [])
    if value == _BAD or (pieces and compare(value, pieces[-1][0]) <= 0):
        return _BAD
    return value


def _true_clock(draft, said, word):
    return word if word in draft.pieces else _BAD


def _linked_clock(draft, said, word):
    return _true_clock(draft, said, word) if draft.net.has_link(said[1], word) else _BAD


def _new_tag(draft, said, word):
    tag = _tag(word)
    return _BAD if tag in draft.sends else tag


def _sent_tag(draft, said, word):
    tag = _tag(word)
    return tag if tag in draft.sends else _BAD


def _time(draft, said, word):
    return _number_from(_first_start(draft, said[0]), word)


def _time_of_both(draft, said, word):
    if _number_from(_first_start(draft, said[1]), word) == _BAD:
        return _BAD
    return _number_from(_first_start(draft, said[2]), word)


def _delay(draft, said, word):
    return None if word == "lost" else _delay_over(draft, said[1], said[2], word)


def _later_delay(draft, said, word):
    start, goal = draft.sends[said[0]]
    return _delay_over(draft, start, goal, word)


# Each of these takes up what a good line has told.

def _take_clock(draft, word, said):
    name, slow, fast, error = said
    draft.net.add_clock(name, slow=slow, fast=fast, error=error)


def _take_link(draft, word, said):
    start, goal, low, high = said
    draft.net.add_link(start, goal, low=low, high=high)


def _take_limit(draft, word, said):
    draft.limit = said[0]


def _take_piece(draft, word, said):
    name, start, shown, rate = said
    draft.pieces.setdefault(name, []).append((start, shown, rate))


def _take_send(draft, word, said):
    draft.sends[said[0]] = (said[1], said[2])
    draft.happened.append((word, said))


def _take_deed(draft, word, said):
    draft.happened.append((word, said))


# For each first word: its group, the checks of the words behind it, and what takes the line up.
_LINES = {
    "clock": (0, (_new_name, _rate, _fast_rate, _error), _take_clock),
    "link": (1, (_clock, _other_clock, _not_negative, _longest_delay), _take_link),
    "liars": (2, (_limit,), _take_limit),
    "truth": (3, (_clock, _later_start, _any_number, _rate), _take_piece),
    "send": (4, (_new_tag, _true_clock, _linked_clock, _time_of_both, _delay), _take_send),
    "again": (4, (_sent_tag, _later_delay), _take_deed),
    "mark": (4, (_true_clock, _time), _take_deed),
    "step": (4, (_true_clock, _time, _any_number), _take_deed),
    "slew": (4, (_true_clock, _time, _rate), _take_deed),
}


def _may_begin(draft, word):
    """True if a line may begin with the word now."""
    if word not in _LINES:
        return False
    group, checks, take = _LINES[word]
    # A group may have one line after the other, but for the one liars line.
    return group > draft.group or (group == draft.group and word != "liars")


def _read_line(draft, words):
    """Takes up a line; gives the number of its first bad word, or None for a good line."""
    if not _may_begin(draft, words[0]):
        return 1
    group, checks, take = _LINES[words[0]]
    said = []
    for at, word in enumerate(words[1:len(checks) + 1]):
        check = checks[at]
        value = check(draft, said, word)
        if value == _BAD:
            return at + 2
        said.append(value)
    if len(words) != len(checks) + 1:
        return min(len(words), len(checks) + 1) + 1
    take(draft, words[0], said)
    draft.group = group
    return None


def _add_deed(play, word, said):
    if word == "send":
        tag, start, goal, at, delay = said
        play.add_send(tag, start, goal, at=at, delay=delay)
    if word == "again":
        tag, delay = said
        play.add_again(tag, delay=delay)
    if word == "mark":
        name, at = said
        play.add_mark(name, at=at)
    if word == "step":
        name, at, jump = said
        play.add_step(name, at=at, jump=jump)
    if word == "slew":
        name, at, rate = said
        play.add_slew(name, at=at, rate=rate)


def _play_of(draft):
    play = Play(draft.net, most=draft.limit)
    for name, course in draft.pieces.items():
        play.set_truth(name, course)
    for word, said in draft.happened:
        _add_deed(play, word, said)
    return play


def _lines_of(text):
    lines = text.split("\n")
    return lines[:-1] if lines[-1] == "" else lines


def read_play(text):
    """The play that the text tells."""
    draft = Draft()
    for number, line in enumerate(_lines_of(text), start=1):
        bad = _read_line(draft, line.split(" "))
        if bad is not None:
            raise BadLine(number, bad)
    return _play_of(draft)


def _word_of(value, missing):
    """The word for a value; missing is the word for None."""
    if value is None:
        return missing
    return rational_text(value) if isinstance(value, tuple) else str(value)


def _line_of(values, missing=""):
    return " ".join([_word_of(value, missing) for value in values]) + "\n"


def _net_lines(net):
    lines = []
    for name in net.names():
        slow, fast = net.rates_of(name)
        lines.append(_line_of(("clock", name, slow, fast, net.error_of(name)), "free"))
    for start, goal in net.links():
        low, high = net.delay_of(start, goal)
        lines.append(_line_of(("link", start, goal, low, high), "any"))
    return lines


def print_play(play):
    """The text of the play."""
    lines = _net_lines(play.base_net())
    lines.append(_line_of(("liars", play.liar_limit)))
    for name, course in play.truths():
        lines.extend([_line_of(("truth", name) + piece) for piece in course])
    lines.extend([_line_of(deed, "lost") for deed in play.deeds()])
    return "".join(lines)
