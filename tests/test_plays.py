"""Point 60, and the interface's plays.py."""

import unittest

from clockverdict.errors import (BadBound, BadRate, BeforeStart, DuplicateName, DuplicateTag, UnknownLink, UnknownName,
                                 UnknownTag)
from clockverdict.nets import Net
from clockverdict.plays import Play
from tests.noting import sample_net
from tests.support import boxes, caught
from tests.test_nets import told as told_net

LINE = [((0, 1), (5, 1), (1, 1))]
# Not tidy: the second piece continues the first one.
LONG = [((-2, 1), (0, 1), (2, 1)), ((1, 1), (6, 1), (2, 1)), ((3, 1), (0, 1), (1, 2))]
LATE = [((4, 1), (4, 1), (1, 1))]


def sample_play():
    """Truths of a from 0 on, of b from -2 on and of c from 4 on; d has none."""
    play = Play(sample_net(), most=2)
    play.set_truth("b", LONG)
    play.set_truth("a", LINE)
    play.set_truth("c", LATE)
    return play


def told(play):
    """All that a play tells."""
    return (play.liar_limit, told_net(play.base_net()), play.truths(), play.deeds())


class BeginningTest(unittest.TestCase):
    def test_an_empty_play(self):
        play = Play(Net())
        self.assertEqual(told(play), (0, ([], []), [], []))
        self.assertEqual(told(Play(Net(), most=0)), told(play))
        for most in (0, 1, 2, 3):
            self.assertEqual(Play(sample_net(), most=most).liar_limit, most)
        self.assertIsInstance(vars(Play)["liar_limit"], property)

    def test_the_net_is_a_copy(self):
        net = sample_net()
        play = Play(net)
        before = told_net(net)
        net.add_clock("e")
        net.add_link("b", "c")
        self.assertEqual(told_net(play.base_net()), before)
        twin = play.base_net()
        self.assertIs(type(twin), Net)
        self.assertIsNot(twin, play.base_net())
        twin.add_clock("e")
        twin.add_link("b", "c")
        self.assertEqual(told_net(play.base_net()), before)
        self.assertEqual(caught(self, UnknownName, play.set_truth, "e", LINE).name, "e")
        play.set_truth("b", LINE)
        play.set_truth("c", LINE)
        caught(self, UnknownLink, play.add_send, 1, "b", "c", at=(1, 1), delay=None)


class TruthTest(unittest.TestCase):
    def test_truths_are_told_as_they_were_passed(self):
        play = sample_play()
        self.assertEqual(play.truths(), [("a", LINE), ("b", LONG), ("c", LATE)])
        self.assertEqual(play.truth_of("b"), LONG)
        self.assertEqual(play.truth_of("a"), LINE)
        self.assertTrue(all([type(row) is tuple for row in play.truths()]))
        self.assertIsNone(play.set_truth("d", LATE))
        self.assertEqual(play.truth_of("d"), LATE)

    def test_wrong_truths(self):
        play = sample_play()
        before = told(play)
        for name in ("x", "", "A", "no name"):
            self.assertEqual(caught(self, UnknownName, play.set_truth, name, LINE).name, name)
            self.assertEqual(caught(self, UnknownName, play.truth_of, name).name, name)
        for name in ("a", "b"):
            self.assertEqual(caught(self, DuplicateName, play.set_truth, name, LATE).name, name)
        self.assertEqual(caught(self, UnknownName, play.truth_of, "d").name, "d")
        self.assertEqual(told(play), before)

    def test_a_truth_that_is_changed_behind_the_call(self):
        play = Play(sample_net())
        course = list(LONG)
        play.set_truth("b", course)
        course.pop()
        course[0] = ((0, 1), (0, 1), (9, 1))
        self.assertEqual(play.truth_of("b"), LONG)
        play.truth_of("b").clear()
        play.truths()[0][1].clear()
        play.truths().clear()
        self.assertEqual(play.truths(), [("b", LONG)])
        self.assertEqual(play.truth_of("b"), LONG)
        parts = boxes(play.truths()) + boxes(play.truths()) + boxes(play.truth_of("b"))
        self.assertEqual(len({id(part) for part in parts}), len(parts))


class DeedTest(unittest.TestCase):
    def test_deeds_stand_in_their_order(self):
        play = sample_play()
        self.assertIsNone(play.add_mark("a", at=(5, 1)))
        self.assertIsNone(play.add_send(3, "a", "b", at=(2, 1), delay=(3, 2)))
        self.assertIsNone(play.add_step("b", at=(-2, 1), jump=(-7, 2)))
        self.assertIsNone(play.add_send(1, "b", "a", at=(1, 1), delay=None))
        self.assertIsNone(play.add_again(1, delay=(1, 2)))
        self.assertIsNone(play.add_slew("a", at=(0, 1), rate=(1, 9)))
        self.assertIsNone(play.add_again(3, delay=(1, 1)))
        self.assertIsNone(play.add_mark("a", at=(5, 1)))
        wanted = [("mark", "a", (5, 1)), ("send", 3, "a", "b", (2, 1), (3, 2)), ("step", "b", (-2, 1), (-7, 2)),
                  ("send", 1, "b", "a", (1, 1), None), ("again", 1, (1, 2)), ("slew", "a", (0, 1), (1, 9)),
                  ("again", 3, (1, 1)), ("mark", "a", (5, 1))]
        self.assertEqual(play.deeds(), wanted)
        play.deeds().clear()
        self.assertEqual(play.deeds(), wanted)
        self.assertIsNot(play.deeds(), play.deeds())
        # The deeds change no truth.
        self.assertEqual(play.truths(), [("a", LINE), ("b", LONG), ("c", LATE)])

    def test_delays_at_the_ends_of_the_link(self):
        for start, goal, delay, fits in [
            ("a", "b", (1, 1), True), ("a", "b", (5, 2), True), ("a", "b", (2, 1), True), ("a", "b", (99, 100), False),
            ("a", "b", (251, 100), False), ("b", "a", (1, 2), True), ("b", "a", (10 ** 11, 1), True),
            ("b", "a", (0, 1), False), ("a", "c", (0, 1), True), ("a", "c", (-1, 100), False), ("c", "a", (4, 1), True),
            ("c", "a", (401, 100), False),
        ]:
            play = sample_play()
            more = {"at": (5, 1), "delay": delay}
            play.add_send(8, start, goal, at=(6, 1), delay=None)
            before = told(play)
            if fits:
                play.add_send(7, start, goal, **more)
                play.add_again(7, delay=delay)
                play.add_again(8, delay=delay)
                self.assertEqual(play.deeds()[1:], [("send", 7, start, goal, (5, 1), delay), ("again", 7, delay),
                                                    ("again", 8, delay)])
            else:
                self.assertEqual(caught(self, BadBound, play.add_send, 7, start, goal, **more).value, delay)
                self.assertEqual(caught(self, BadBound, play.add_again, 8, delay=delay).value, delay)
                self.assertEqual(told(play), before)

    def test_times_at_the_first_start_and_before_it(self):
        early, start = (-1, 10 ** 11), (0, 1)
        play = sample_play()
        before = told(play)
        for call, args, more in [
            (play.add_send, (1, "a", "b"), {"delay": (1, 1)}), (play.add_send, (1, "b", "a"), {"delay": (1, 1)}),
            (play.add_send, (1, "a", "b"), {"delay": None}), (play.add_mark, ("a",), {}),
            (play.add_step, ("a",), {"jump": (1, 1)}), (play.add_slew, ("a",), {"rate": (1, 1)}),
        ]:
            self.assertEqual(caught(self, BeforeStart, call, *args, at=early, **more).value, early)
            self.assertEqual(told(play), before)
        for goal, at in [("c", (399, 100)), ("c", (0, 1))]:
            self.assertEqual(caught(self, BeforeStart, play.add_send, 1, "a", goal, at=at, delay=None).value, at)
            self.assertEqual(caught(self, BeforeStart, play.add_send, 1, goal, "a", at=at, delay=None).value, at)
        self.assertEqual(told(play), before)
        play.add_send(1, "a", "b", at=start, delay=(1, 1))
        play.add_send(2, "b", "a", at=start, delay=(1, 1))
        play.add_send(3, "a", "c", at=(4, 1), delay=(0, 1))
        play.add_mark("a", at=start)
        play.add_mark("b", at=(-2, 1))
        play.add_step("a", at=start, jump=(0, 1))
        play.add_slew("a", at=start, rate=(1, 1))
        self.assertEqual(len(play.deeds()), 7)

    def test_each_wrong_argument_alone_and_several_at_once(self):
        play = sample_play()
        play.add_send(1, "a", "b", at=(1, 1), delay=(1, 1))
        before = told(play)
        early = (-99, 1)
        for kind, wrong, tag, start, goal, at, delay in [
            (DuplicateTag, 1, 1, "a", "b", (1, 1), (1, 1)), (DuplicateTag, 1, 1, "x", "y", early, (99, 1)),
            (DuplicateTag, 1, 1, "b", "a", (1, 1), (1, 1)), (UnknownName, "x", 2, "x", "b", (1, 1), (1, 1)),
            (UnknownName, "d", 2, "d", "b", (1, 1), (1, 1)), (UnknownName, "x", 2, "x", "y", early, (99, 1)),
            (UnknownName, "d", 2, "d", "x", early, (99, 1)), (UnknownName, "y", 2, "a", "y", (1, 1), (1, 1)),
            (UnknownName, "d", 2, "a", "d", (1, 1), (1, 1)), (UnknownName, "y", 2, "a", "y", early, (99, 1)),
            (UnknownName, "", 2, "a", "", early, (99, 1)), (UnknownLink, ("a", "a"), 2, "a", "a", (1, 1), (1, 1)),
            (UnknownLink, ("b", "c"), 2, "b", "c", (9, 1), (1, 1)), (UnknownLink, ("c", "b"), 2, "c", "b", early, (99, 1)),
            (BeforeStart, early, 2, "a", "b", early, (1, 1)), (BeforeStart, early, 2, "a", "b", early, (99, 1)),
            (BeforeStart, early, 2, "b", "a", early, None), (BadBound, (99, 1), 2, "a", "b", (1, 1), (99, 1)),
        ]:
            error = caught(self, kind, play.add_send, tag, start, goal, at=at, delay=delay)
            shown = [value for key, value in sorted(vars(error).items(), reverse=True)]
            self.assertEqual(shown, list(wrong) if kind is UnknownLink else [wrong])
            self.assertEqual(told(play), before)
        for tag, delay in [(2, (1, 1)), (9999, (99, 1))]:
            self.assertEqual(caught(self, UnknownTag, play.add_again, tag, delay=delay).tag, tag)
        self.assertEqual(caught(self, BadBound, play.add_again, 1, delay=(99, 1)).value, (99, 1))
        for name in ("x", "", "d"):
            for at in ((1, 1), early):
                self.assertEqual(caught(self, UnknownName, play.add_mark, name, at=at).name, name)
                self.assertEqual(caught(self, UnknownName, play.add_step, name, at=at, jump=(1, 1)).name, name)
                for rate in ((1, 1), (0, 1)):
                    self.assertEqual(caught(self, UnknownName, play.add_slew, name, at=at, rate=rate).name, name)
        for rate in [(0, 1), (-1, 10 ** 11), (-3, 1)]:
            self.assertEqual(caught(self, BadRate, play.add_slew, "a", at=(1, 1), rate=rate).value, rate)
            self.assertEqual(caught(self, BeforeStart, play.add_slew, "a", at=early, rate=rate).value, early)
        self.assertEqual(told(play), before)

    def test_a_tag_is_taken_by_a_send_deed_alone(self):
        play = sample_play()
        caught(self, UnknownTag, play.add_again, 5, delay=(1, 1))
        play.add_send(5, "a", "b", at=(1, 1), delay=None)
        play.add_again(5, delay=(1, 1))
        caught(self, DuplicateTag, play.add_send, 5, "a", "b", at=(1, 1), delay=None)
        play.add_send(6, "a", "b", at=(1, 1), delay=None)
        self.assertEqual(len(play.deeds()), 3)

    def test_two_plays_share_nothing(self):
        one, two = sample_play(), sample_play()
        one.set_truth("d", LINE)
        one.add_mark("a", at=(1, 1))
        self.assertEqual(told(two), told(sample_play()))


if __name__ == "__main__":
    unittest.main()
