"""Points 65 to 67, and the interface's wording.py."""

import random
import re
import unittest
from fractions import Fraction

from clockverdict.errors import BadLine
from clockverdict.machine import final_course, pilot, run, true_liars
from clockverdict.nets import Net
from clockverdict.plays import Play
from clockverdict.wording import print_play, read_play
from tests.support import caught, fraction, laid_open, unchanged
from tests.test_machine import some_play
from tests.test_plays import told

HEAD = "clock a 1 1 0\nclock b 1/2 2 free\nlink a b 0 2\nlink b a 1/2 any\nliars 1\n"
BODY = HEAD + "truth a 0 0 1\ntruth b 1 5 1/2\n"
FULL = BODY + "send 1 a b 3 1\nsend 22 b a 1 lost\nagain 22 7/2\nmark a 4\nstep a 5 -1\nslew b 6 3/2\n"


# Points 65 and 66, written apart from the program.

def plain_number(word):
    if not re.fullmatch(r"-?[0-9]{1,9}(/[0-9]{1,9})?", word):
        return None
    above, _, below = word.partition("/")
    if below and int(below) == 0:
        return None
    value = Fraction(int(above), int(below or 1))
    return value if str(value) == word else None


class PlainText:
    """Goes over the words of a text; the first bad one is kept."""

    def __init__(self, text):
        self.clocks, self.links, self.truths, self.sends = set(), {}, {}, {}
        self.group = "clock"
        self.limit = None
        self.bad = None
        lines = text.split("\n")
        if lines[-1] == "":
            lines.pop()
        for number, line in enumerate(lines, 1):
            word = self.first_bad(line.split(" "))
            if word:
                self.bad = (number, word)
                return

    def first_bad(self, words):
        groups = ["clock", "link", "liars", "truth", "deed"]
        sizes = {"clock": 5, "link": 5, "liars": 2, "truth": 5, "send": 6, "again": 3, "mark": 3, "step": 4, "slew": 4}
        kind = words[0]
        if kind not in sizes:
            return 1
        group = kind if kind in groups else "deed"
        if groups.index(group) < groups.index(self.group) or (kind == "liars" and self.limit is not None):
            return 1
        for place in range(1, min(len(words), sizes[kind])):
            if not self.is_good(kind, words[:place], words[place]):
                return place + 1
        if len(words) != sizes[kind]:
            return min(len(words), sizes[kind]) + 1
        self.group = group
        self.take(kind, words)
        return 0

    def is_good(self, kind, before, word):
        value = plain_number(word)
        at_least = lambda low: value is not None and value >= low
        place = len(before)
        if kind == "clock":
            return [lambda: re.fullmatch("[a-z][a-z0-9]{0,7}", word) and word not in self.clocks,
                    lambda: value is not None and value > 0, lambda: at_least(plain_number(before[2])),
                    lambda: word == "free" or at_least(0)][place - 1]()
        if kind == "link":
            return [lambda: word in self.clocks,
                    lambda: word in self.clocks and word != before[1] and (before[1], word) not in self.links,
                    lambda: at_least(0), lambda: word == "any" or at_least(plain_number(before[3]))][place - 1]()
        if kind == "liars":
            return word in list("0123")
        if kind == "truth":
            return [lambda: word in self.clocks,
                    lambda: value is not None and (before[1] not in self.truths or value > self.truths[before[1]][1]),
                    lambda: value is not None, lambda: value is not None and value > 0][place - 1]()
        if kind == "send":
            return [lambda: re.fullmatch("[1-9][0-9]{0,3}", word) and word not in self.sends,
                    lambda: word in self.truths, lambda: word in self.truths and (before[2], word) in self.links,
                    lambda: at_least(self.truths[before[2]][0]) and at_least(self.truths[before[3]][0]),
                    lambda: word == "lost" or self.in_span(value, (before[2], before[3]))][place - 1]()
        if kind == "again":
            return [lambda: word in self.sends, lambda: self.in_span(value, self.sends[before[1]])][place - 1]()
        return [lambda: word in self.truths, lambda: at_least(self.truths[before[1]][0]),
                lambda: value is not None and (kind == "step" or value > 0)][place - 1]()

    def in_span(self, value, link):
        low, high = self.links[link]
        return value is not None and value >= low and (high is None or value <= high)

    def take(self, kind, words):
        if kind == "clock":
            self.clocks.add(words[1])
        if kind == "link":
            self.links[(words[1], words[2])] = (plain_number(words[3]), plain_number(words[4]))
        if kind == "liars":
            self.limit = words[1]
        if kind == "truth":
            first, _ = self.truths.get(words[1], (plain_number(words[2]), None))
            self.truths[words[1]] = (first, plain_number(words[2]))
        if kind == "send":
            self.sends[words[1]] = (words[2], words[3])


def plain_print(play):
    """Point 67, written apart from the program."""
    net = play.base_net()
    word = lambda value, missing="": missing if value is None else value if type(value) is str else (
        str(value) if type(value) is int else str(fraction(value)))
    lines = [["clock", name, *net.rates_of(name), net.error_of(name)] for name in sorted(net.names())]
    text = "".join([" ".join([word(part, "free") for part in line]) + "\n" for line in lines])
    for link in sorted(net.links()):
        text += " ".join([word(part, "any") for part in ("link", *link, *net.delay_of(*link))]) + "\n"
    text += "liars " + str(play.liar_limit) + "\n"
    for name, course in play.truths():
        for piece in course:
            text += " ".join([word(part) for part in ("truth", name, *piece)]) + "\n"
    for deed in play.deeds():
        text += " ".join([word(part, "lost") for part in deed]) + "\n"
    return text


class Wording(unittest.TestCase):
    def bad(self, text, line, word):
        error = caught(self, BadLine, read_play, text)
        self.assertEqual((error.line, error.word), (line, word), text)
        self.assertEqual(PlainText(text).bad, (line, word), text)

    def good(self, text):
        self.assertIsNone(PlainText(text).bad, text)
        return read_play(text)


class ReadTest(Wording):
    def test_all_kinds_of_lines(self):
        play = self.good(FULL)
        net = play.base_net()
        self.assertEqual(net.names(), ["a", "b"])
        self.assertEqual((net.rates_of("a"), net.error_of("a")), (((1, 1), (1, 1)), (0, 1)))
        self.assertEqual((net.rates_of("b"), net.error_of("b")), (((1, 2), (2, 1)), None))
        self.assertEqual(net.links(), [("a", "b"), ("b", "a")])
        self.assertEqual(net.delay_of("a", "b"), ((0, 1), (2, 1)))
        self.assertEqual(net.delay_of("b", "a"), ((1, 2), None))
        self.assertEqual(play.liar_limit, 1)
        self.assertEqual(play.truths(), [("a", [((0, 1), (0, 1), (1, 1))]), ("b", [((1, 1), (5, 1), (1, 2))])])
        self.assertEqual(play.deeds(), [("send", 1, "a", "b", (3, 1), (1, 1)), ("send", 22, "b", "a", (1, 1), None),
                                        ("again", 22, (7, 2)), ("mark", "a", (4, 1)), ("step", "a", (5, 1), (-1, 1)),
                                        ("slew", "b", (6, 1), (3, 2))])

    def test_texts_without_some_groups(self):
        for text in ["", "liars 3\n", "clock a 1 1 0", "clock a 1 1 0\ntruth a -5 1/3 1\n", "liars 0"]:
            self.good(text)
        self.assertEqual(read_play("").base_net().names(), [])
        self.assertEqual((read_play("").liar_limit, read_play("").truths(), read_play("").deeds()), (0, [], []))
        self.assertEqual(read_play("liars 3").liar_limit, 3)
        self.assertEqual(read_play("clock a 1 1 0\n").liar_limit, 0)

    def test_with_and_without_a_last_newline(self):
        self.assertEqual(laid_open(read_play(FULL)), laid_open(read_play(FULL[:-1])))
        self.bad(FULL + "\n", 14, 1)
        self.bad("\n", 1, 1)
        self.bad("\n\n", 1, 1)
        self.bad("clock a 1 1 0\n\nclock b 1 1 0\n", 2, 1)
        self.bad("\nclock a 1 1 0\n", 1, 1)

    def test_the_document_s_example(self):
        self.bad("clock a 1 1 0\nclock  b 1 1 free\n", 2, 2)

    def test_truth_lines_of_one_clock_may_stand_apart(self):
        play = self.good(HEAD + "truth a 0 0 1\ntruth b 9 1 1\ntruth a 3 4 2\ntruth b 10 0 1\ntruth a 7/2 5 2\n")
        self.assertEqual(play.truth_of("a"), [((0, 1), (0, 1), (1, 1)), ((3, 1), (4, 1), (2, 1)), ((7, 2), (5, 1), (2, 1))])
        self.assertEqual(play.truth_of("b"), [((9, 1), (1, 1), (1, 1)), ((10, 1), (0, 1), (1, 1))])
        self.bad(HEAD + "truth a 0 0 1\ntruth b 9 1 1\ntruth a 0 4 2\n", 8, 3)
        self.bad(HEAD + "truth a 0 0 1\ntruth b 9 1 1\ntruth a -1 4 2\n", 8, 3)
        self.bad(HEAD + "truth a 0 0 1\ntruth b 9 1 1\ntruth b 9 4 2\n", 8, 3)

    def test_truths_that_are_not_tidy_stay_as_they_are(self):
        play = self.good(HEAD + "truth a 0 0 1\ntruth a 3 3 1\n")
        self.assertEqual(play.truth_of("a"), [((0, 1), (0, 1), (1, 1)), ((3, 1), (3, 1), (1, 1))])

    def test_reading_twice_gives_plays_apart_from_each_other(self):
        first, second = read_play(FULL), read_play(FULL)
        first.add_mark("a", at=(9, 1))
        self.assertEqual(len(second.deeds()), 6)
        self.assertEqual(laid_open(read_play(FULL)), laid_open(second))


class BadWordTest(Wording):
    def each(self, head, words, wrong):
        """Each wrong word in its place is bad, whatever stands behind it; the words as they are make a good line."""
        line = head.count("\n") + 1
        self.good(head + " ".join(words))
        for place, others in wrong.items():
            for other in others:
                changed = words[:place - 1] + [other] + words[place:]
                self.bad(head + " ".join(changed), line, place)
                self.bad(head + " ".join(changed) + "\nnonsense\n", line, place)
                # Behind the first bad word nothing counts.
                self.bad(head + " ".join(words[:place - 1] + [other] + ["?"] * len(words[place:])), line, place)
                # With the newline behind it, an empty word alone is a line, too.
                self.bad(head + " ".join(words[:place - 1] + [other]) + "\n", line, place)
                self.bad(head + " ".join(changed + ["more"]), line, place)
        for many in range(1, len(words)):
            self.bad(head + " ".join(words[:many]), line, many + 1)
        for more in ["more", "", "0", "any"]:
            self.bad(head + " ".join(words + [more]), line, len(words) + 1)
            self.bad(head + " ".join(words + [more, more]), line, len(words) + 1)

    NO_NUMBERS = ["", "x", "+1", "01", "-0", "1/1", "2/4", "1/0", "0/1", "1/-2", "--1", "1.5", "1e3", " ", "1/", "/2",
                  "1/2/3", "1234567890", "1/1234567890", "-1234567890", "00", "-", "None", "any", "free", "lost"]

    def numbers(self, *out_of_range, free=()):
        """Words that are no number, those of the right form that are out of range, and none that is free to stand here."""
        return [word for word in self.NO_NUMBERS if word not in free and word != " "] + list(out_of_range)

    def test_clock_lines(self):
        wrong = {1: ["", "Clock", "clocks", "cloc", "tick", "clock:", "0"],
                 2: ["", "a", "A", "1a", "abcdefghi", "a_b", "a-b", "?", "-"],
                 3: self.numbers("0", "-1", "-1/2"),
                 4: self.numbers("0", "-1", "1/3", "499/1000"),
                 5: self.numbers("-1", "-1/999999999", free=("free",)) + ["Free", "frees"]}
        self.each("clock a 1 1 0\n", ["clock", "c", "1/2", "3/4", "0"], wrong)
        for words in [["clock", "abcdefg8", "1/2", "1/2", "free"], ["clock", "c", "999999999", "999999999", "1/999999999"]]:
            self.each("clock a 1 1 0\n", words, {})

    def test_link_lines(self):
        head = "clock a 1 1 0\nclock b 1 1 0\nclock c 1 1 0\nlink a b 0 2\n"
        wrong = {1: ["", "Link", "links"], 2: ["", "d", "B", "bb", "?"],
                 3: ["", "b", "d", "A", "?"],
                 4: self.numbers("-1", "-1/2"), 5: self.numbers("0", "1/3", "-1", free=("any",)) + ["Any", "free", "lost"]}
        self.each(head, ["link", "b", "a", "1/2", "1/2"], wrong)
        self.each(head, ["link", "a", "c", "0", "any"], {3: ["a", "b"]})
        self.each(head, ["link", "a", "c", "0", "0"], {5: ["-1"]})

    def test_liars_lines(self):
        wrong = {1: ["", "liar", "Liars"], 2: ["", "4", "-1", "00", "01", "+1", "1/2", "x", "9", "0/1", "10"]}
        for most in "0123":
            self.each("clock a 1 1 0\n", ["liars", most], wrong)
            self.assertEqual(read_play("liars " + most).liar_limit, int(most))

    def test_truth_lines(self):
        wrong = {1: ["", "Truth", "truths"], 2: ["", "c", "A", "aa", "?"], 3: self.numbers("0", "-1"),
                 4: self.numbers(), 5: self.numbers("0", "-1", "-1/2")}
        self.each(HEAD + "truth a 0 0 1\n", ["truth", "a", "1/2", "-7", "1/2"], wrong)
        self.each(HEAD, ["truth", "a", "-7", "-7", "1/2"], {})

    def test_send_lines(self):
        head = "clock a 1 1 0\nclock b 1 1 0\nclock c 1 1 0\nclock d 1 1 0\nlink a b 1/2 2\nlink b a 0 any\nlink a d 0 any\n" \
               "link d a 0 any\nliars 0\ntruth a 0 0 1\ntruth b 1 5 1\ntruth c 0 0 1\nsend 1 a b 3 1\n"
        wrong = {1: ["", "Send", "sends"],
                 2: ["", "0", "1", "01", "-2", "+2", "2/1", "5/2", "10000", "99999", "x", "1234567890"],
                 3: ["", "d", "e", "A", "?"],
                 4: ["", "a", "c", "d", "e", "?"],
                 5: self.numbers("0", "-1", "1/2", "999/1000"),
                 6: self.numbers("0", "1/3", "-1", "3", "5/2", free=("lost",)) + ["Lost"]}
        self.each(head, ["send", "2", "a", "b", "1", "1/2"], wrong)
        self.each(head, ["send", "9999", "a", "b", "1", "2"], wrong)
        self.each(head, ["send", "2", "b", "a", "1", "lost"], {4: ["b", "c"], 5: ["0", "1/2"], 6: ["-1"]})
        # The clocks c and d have a truth and links, but c has no link and d no truth.
        self.each(head, ["send", "2", "b", "a", "1", "0"], {3: ["c2"], 4: ["c", "d"]})
        self.bad(head + "send 2 c a 1 0\n", 14, 4)
        self.bad(head + "send 2 d a 1 0\n", 14, 3)

    def test_again_lines(self):
        wrong = {1: ["", "Again", "again?"], 2: ["", "2", "01", "0", "-1", "x", "1/1", "10000"],
                 3: self.numbers("-1", "5/2", "3", "-1/2", free=()) + ["lost"]}
        self.each(BODY + "send 1 a b 3 1\n", ["again", "1", "2"], wrong)
        self.each(BODY + "send 7 b a 3 lost\n", ["again", "7", "1/2"], {3: ["1/3", "0"]})
        self.bad(BODY + "again 1 1\nsend 1 a b 3 1\n", 8, 2)

    def test_mark_step_and_slew_lines(self):
        head = HEAD + "truth b 1 5 1/2\ntruth b 4 0 1\n"
        clocks = ["", "a", "c", "B", "?"]
        times = self.numbers("0", "1/2", "-1")
        self.each(head, ["mark", "b", "1"], {1: ["", "Mark", "marks"], 2: clocks, 3: times})
        self.each(head, ["step", "b", "1", "-1/2"], {1: ["", "Step"], 2: clocks, 3: times, 4: self.numbers()})
        self.each(head, ["step", "b", "1", "0"], {})
        self.each(head, ["slew", "b", "4", "1/2"], {1: ["", "Slew"], 2: clocks, 3: times, 4: self.numbers("0", "-1")})

    def test_groups_out_of_order(self):
        lines = {"clock": "clock c 1 1 0", "link": "link a b 0 2", "liars": "liars 1", "truth": "truth a 9 0 1",
                 "mark": "mark a 4", "send": "send 1 a b 3 1", "again": "again 1 1", "step": "step a 5 1", "slew": "slew a 6 1"}
        start = "clock a 1 1 0\nclock b 1 1 0\n"
        self.bad(start + "link b a 0 1\nclock c 1 1 0\n", 4, 1)
        self.bad(start + "liars 1\nclock c 1 1 0\n", 4, 1)
        self.bad(start + "liars 1\nlink a b 0 1\n", 4, 1)
        self.bad(start + "truth a 0 0 1\nliars 1\n", 4, 1)
        self.bad(start + "truth a 0 0 1\nlink a b 0 1\n", 4, 1)
        self.bad(start + "truth a 0 0 1\nclock c 1 1 0\n", 4, 1)
        for kind in ("clock", "link", "liars", "truth"):
            for deed in ("mark", "send", "step", "slew"):
                body = start + "link a b 0 2\ntruth a 0 0 1\ntruth b 0 0 1\n" + lines[deed] + "\n"
                self.bad(body + lines[kind] + "\n", 7, 1)
        # The deeds are one group.
        self.good(start + "link a b 0 2\ntruth a 0 0 1\ntruth b 0 0 1\n" + "\n".join(
            [lines[kind] for kind in ("slew", "mark", "send", "step", "again", "mark")]))

    def test_a_second_liars_line(self):
        self.bad("liars 1\nliars 1\n", 2, 1)
        self.bad("liars 0\nliars 0\n", 2, 1)
        self.bad("clock a 1 1 0\nliars 1\ntruth a 0 0 1\nliars 2\n", 4, 1)
        self.bad("liars 1\nliars x y z\n", 2, 1)

    def test_the_first_bad_line_counts(self):
        self.bad("clock a 1 1 0\nclock b 1 x 0\nclock B 1 1 0\n?\n", 2, 4)
        self.bad("clock a 1 1 0\nclock b 0 x ?\n", 2, 3)
        self.bad("clock a 1 1 0 0\n\n", 1, 6)

    def test_empty_words(self):
        for text, line, word in [(" clock a 1 1 0", 1, 1), ("clock  a 1 1 0", 1, 2), ("clock a  1 1 0", 1, 3),
                                 ("clock a 1  1 0", 1, 4), ("clock a 1 1  0", 1, 5), ("clock a 1 1 0 ", 1, 6),
                                 ("clock a 1 1 0  ", 1, 6), ("clock a 1 1 ", 1, 5), (" ", 1, 1), ("  ", 1, 1),
                                 ("clock ", 1, 2), ("clock", 1, 2), ("liars", 1, 2), ("liars ", 1, 2), ("liars 1 ", 1, 3)]:
            self.bad(text, line, word)
            self.bad(text + "\n", line, word)

    def test_against_a_plain_reading_of_many_texts(self):
        rng = random.Random(66)
        spare = self.NO_NUMBERS + ["a", "b", "c", "0", "1", "2", "3", "-1", "1/2", "clock", "link", "liars", "truth", "send",
                                   "again", "mark", "step", "slew"]
        counts = [0, 0]
        for _ in range(1500):
            lines = FULL.split("\n")[:-1] if rng.random() < 0.5 else plain_print(some_play(rng)).split("\n")[:-1]
            for _ in range(rng.randint(1, 3)):
                at = rng.randrange(len(lines))
                words = lines[at].split(" ")
                place = rng.randrange(len(words))
                change = rng.choice(["other", "other", "other", "gone", "more", "swap", "twice", "drop"])
                if change == "other":
                    words[place] = rng.choice(spare)
                elif change == "gone":
                    del words[place]
                elif change == "more":
                    words.insert(place, rng.choice(spare))
                lines[at] = " ".join(words)
                if change == "swap":
                    other = rng.randrange(len(lines))
                    lines[at], lines[other] = lines[other], lines[at]
                elif change == "twice":
                    lines.insert(at, lines[at])
                elif change == "drop" and len(lines) > 1:
                    del lines[at]
            text = "\n".join(lines) + rng.choice(["", "\n"])
            plain = PlainText(text).bad
            counts[plain is None] += 1
            if plain is None:
                self.assertEqual(plain_print(read_play(text)), print_play(read_play(text)))
            else:
                error = caught(self, BadLine, read_play, text)
                self.assertEqual((error.line, error.word), plain, text)
        self.assertGreater(min(counts), 100)


class PrintTest(Wording):
    def test_the_order_of_lines(self):
        net = Net()
        net.add_clock("b", slow=(1, 2), fast=(2, 1))
        net.add_clock("a", error=(3, 2))
        net.add_clock("c", error=(0, 1))
        net.add_link("b", "a")
        net.add_link("a", "c", low=(1, 1), high=(1, 1))
        net.add_link("a", "b", low=(1, 2), high=(7, 3))
        play = Play(net)
        play.set_truth("c", [((-1, 1), (0, 1), (1, 1)), ((5, 2), (-1, 3), (2, 1))])
        play.set_truth("a", [((0, 1), (0, 1), (1, 1))])
        play.add_step("c", at=(4, 1), jump=(-1, 2))
        play.add_send(5, "a", "c", at=(4, 1), delay=(1, 1))
        play.add_mark("a", at=(0, 1))
        play.add_send(3, "a", "c", at=(1, 1), delay=None)
        play.add_again(3, delay=(1, 1))
        play.add_slew("a", at=(2, 1), rate=(1, 2))
        text = ("clock a 1 1 3/2\nclock b 1/2 2 free\nclock c 1 1 0\nlink a b 1/2 7/3\nlink a c 1 1\nlink b a 0 any\nliars 0\n"
                "truth a 0 0 1\ntruth c -1 0 1\ntruth c 5/2 -1/3 2\nstep c 4 -1/2\nsend 5 a c 4 1\nmark a 0\nsend 3 a c 1 lost\n"
                "again 3 1\nslew a 2 1/2\n")
        self.assertEqual(unchanged(self, print_play, play), text)
        self.assertEqual(laid_open(self.good(text).deeds()), laid_open(play.deeds()))

    def test_a_play_without_anything(self):
        self.assertEqual(print_play(Play(Net())), "liars 0\n")
        self.assertEqual(print_play(read_play("")), "liars 0\n")
        self.assertEqual(print_play(Play(Net(), most=3)), "liars 3\n")

    def test_printing_what_was_read_puts_it_in_order(self):
        self.assertEqual(print_play(read_play(FULL)), FULL)
        self.assertEqual(print_play(read_play("clock b 1 1 0\nclock a 1 1 free\nlink b a 0 1\nlink a b 0 any\n")),
                         "clock a 1 1 free\nclock b 1 1 0\nlink a b 0 any\nlink b a 0 1\nliars 0\n")
        self.assertEqual(print_play(read_play(HEAD + "truth b 0 0 1\ntruth a 0 0 1\ntruth b 1 0 1\n")),
                         HEAD + "truth a 0 0 1\ntruth b 0 0 1\ntruth b 1 0 1\n")

    def test_reading_what_was_printed(self):
        rng = random.Random(67)
        for _ in range(150):
            play = some_play(rng)
            text = print_play(play)
            self.assertEqual(text, plain_print(play))
            again = self.good(text)
            self.assertEqual(print_play(again), text)
            self.assertEqual(told(again), told(play))

    def test_numbers_of_nine_digits(self):
        text = ("clock a 1/999999999 999999999 999999999/2\nliars 0\ntruth a -999999999 -999999998/999999999 999999999\n"
                "mark a -999999999\nstep a 999999999 -999999999\n")
        self.assertEqual(print_play(self.good(text)), text)


class MachineExamplesTest(Wording):
    def test_the_example_of_the_machine(self):
        text = "clock a 1 1 0\nclock b 1 1 free\nlink a b 0 2\n"
        play = read_play(text + "truth a 0 0 1\ntruth b 0 5 1\nsend 1 a b 3 1\n")
        self.assertEqual(run(play), ([("sent", 1, "a", (3, 1), "b"), ("got", 1, "b", (9, 1))], [(0, 1), (3, 1), (4, 1)]))
        self.assertEqual(true_liars(play), [])

    def test_a_play_that_is_read_does_what_the_play_it_was_printed_from_does(self):
        rng = random.Random(671)
        for _ in range(25):
            play = some_play(rng, 6)
            again = read_play(print_play(play))
            self.assertEqual(run(again), run(play))
            self.assertEqual(true_liars(again), true_liars(play))
            for name, _ in play.truths():
                self.assertEqual(final_course(again, name), final_course(play, name))

    def test_a_pilot_of_a_play_that_is_read(self):
        play = read_play("clock a 1 1 1\nclock b 9/10 11/10 free\nlink a b 0 1\ntruth a 0 0 1\ntruth b 0 3 1\n"
                         "send 1 a b 2 1\nmark b 4\nmark b 5\n")
        found = pilot(play, "b", error=(5, 1), slew=(1, 5))
        self.assertEqual([row[:2] for row in found], [(3, (7, 1)), (4, (8, 1))])
        for (place, reading, shown, error), time in zip(found, (4, 5)):
            self.assertLessEqual(abs(fraction(shown) - time), fraction(error))


if __name__ == "__main__":
    unittest.main()
