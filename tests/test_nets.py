"""Points 8 and 17, and the interface's nets.py."""

import unittest

from clockverdict.errors import BadBound, BadLink, BadName, BadRate, DuplicateName, UnknownLink, UnknownName
from clockverdict.nets import Net, is_name
from tests.support import ODD_VALUES, caught

GOOD_NAMES = ["a", "z", "a1", "abcdefgh", "a1234567", "z0", "zzzzzzzz", "clock", "a0b1c2d3"]
BAD_NAMES = ["", "A", "1", "1a", "aB", "a_b", "a b", " a", "a ", "abcdefghi", "a-b", "a.b", "_a", "a!", "~", "0",
             "a12345678", "aZ", "-", "a/b", "B1", "a{", "`a", "a@", "a/", "a:"]


def sample():
    net = Net()
    net.add_clock("b", slow=(1, 2), fast=(3, 2), error=(5, 1))
    net.add_clock("a")
    net.add_clock("c", error=(0, 1))
    net.add_link("b", "a", low=(1, 2), high=(7, 2))
    net.add_link("a", "b")
    net.add_link("a", "c", low=(3, 1))
    net.add_link("c", "a", high=(0, 1))
    return net


def told(net):
    """All that a net tells."""
    clocks = [(name, net.rates_of(name), net.error_of(name)) for name in net.names()]
    links = [(start, goal, net.delay_of(start, goal)) for start, goal in net.links()]
    return (clocks, links)


TOLD = (
    [("a", ((1, 1), (1, 1)), None), ("b", ((1, 2), (3, 2)), (5, 1)), ("c", ((1, 1), (1, 1)), (0, 1))],
    [("a", "b", ((0, 1), None)), ("a", "c", ((3, 1), None)), ("b", "a", ((1, 2), (7, 2))),
     ("c", "a", ((0, 1), (0, 1)))],
)


class ClockTest(unittest.TestCase):
    def test_an_empty_net(self):
        net = Net()
        self.assertEqual(net.names(), [])
        self.assertEqual(net.links(), [])
        self.assertIs(net.has_link("a", "b"), False)

    def test_what_is_added_is_told(self):
        self.assertEqual(told(sample()), TOLD)

    def test_a_left_out_argument_is_its_default(self):
        net = Net()
        self.assertIsNone(net.add_clock("a"))
        self.assertIsNone(net.add_clock("b", slow=(1, 1), fast=(1, 1), error=None))
        self.assertIsNone(net.add_link("a", "b"))
        self.assertIsNone(net.add_link("b", "a", low=(0, 1), high=None))
        for name in ("a", "b"):
            self.assertEqual(net.rates_of(name), ((1, 1), (1, 1)))
            self.assertIsNone(net.error_of(name))
        self.assertEqual(net.delay_of("a", "b"), ((0, 1), None))
        self.assertEqual(net.delay_of("b", "a"), ((0, 1), None))
        net.add_clock("c", slow=(1, 2))
        self.assertEqual(net.rates_of("c"), ((1, 2), (1, 1)))
        net.add_clock("d", fast=(2, 1))
        self.assertEqual(net.rates_of("d"), ((1, 1), (2, 1)))
        net.add_clock("e", error=(1, 3))
        self.assertEqual((net.rates_of("e"), net.error_of("e")), (((1, 1), (1, 1)), (1, 3)))

    def test_names(self):
        net = Net()
        for name in GOOD_NAMES:
            net.add_clock(name)
        self.assertEqual(net.names(), sorted(GOOD_NAMES))
        for name in BAD_NAMES:
            self.assertEqual(caught(self, BadName, net.add_clock, name).value, name)
            self.assertIs(is_name(name), False)
        self.assertEqual(net.names(), sorted(GOOD_NAMES))
        for name in GOOD_NAMES:
            self.assertIs(is_name(name), True)

    def test_is_name_of_odd_values(self):
        for value in ODD_VALUES:
            self.assertIs(is_name(value), value in ("a", "way"))

    def test_wrong_clocks(self):
        net = sample()
        for kind, value, name, more in [
            (BadName, "A", "A", {"slow": (0, 1), "fast": (-1, 1), "error": (-1, 1)}),
            (DuplicateName, "a", "a", {}),
            (DuplicateName, "a", "a", {"slow": (0, 1), "fast": (-1, 1), "error": (-1, 1)}),
            (BadRate, (0, 1), "x", {"slow": (0, 1)}),
            (BadRate, (-1, 2), "x", {"slow": (-1, 2), "fast": (-1, 1), "error": (-1, 1)}),
            (BadRate, (-1, 2), "x", {"slow": (-1, 2), "error": (-1, 1)}),
            (BadRate, (1, 3), "x", {"slow": (1, 2), "fast": (1, 3), "error": (-1, 1)}),
            (BadRate, (99, 100), "x", {"fast": (99, 100)}),
            (BadRate, (1, 1), "x", {"slow": (3, 2)}),
            (BadRate, (-1, 1), "x", {"fast": (-1, 1)}),
            (BadBound, (-1, 100), "x", {"error": (-1, 100)}),
            (BadBound, (-3, 1), "x", {"slow": (1, 2), "fast": (1, 1), "error": (-3, 1)}),
        ]:
            error = caught(self, kind, net.add_clock, name, **more)
            self.assertEqual(error.name if kind is DuplicateName else error.value, value)
            self.assertEqual(told(net), TOLD)

    def test_bounds_that_are_just_right(self):
        net = Net()
        net.add_clock("a", slow=(1, 10 ** 11), fast=(1, 10 ** 11), error=(0, 1))
        self.assertEqual(net.rates_of("a"), ((1, 10 ** 11), (1, 10 ** 11)))
        net.add_clock("b")
        net.add_link("a", "b", low=(5, 2), high=(5, 2))
        self.assertEqual(net.delay_of("a", "b"), ((5, 2), (5, 2)))

    def test_unknown_names(self):
        net = sample()
        for name in ["d", "", "A", "not a name"]:
            self.assertEqual(caught(self, UnknownName, net.rates_of, name).name, name)
            self.assertEqual(caught(self, UnknownName, net.error_of, name).name, name)


class LinkTest(unittest.TestCase):
    def test_each_direction_is_a_link_of_its_own(self):
        net = sample()
        for start, goal, wanted in [("a", "b", True), ("b", "a", True), ("a", "c", True), ("c", "a", True),
                                    ("b", "c", False), ("c", "b", False), ("a", "a", False), ("a", "x", False),
                                    ("x", "a", False), ("", "", False), ("x", "x", False)]:
            self.assertIs(net.has_link(start, goal), wanted)
        self.assertNotEqual(net.delay_of("a", "b"), net.delay_of("b", "a"))

    def test_wrong_links(self):
        net = sample()
        bad = {"low": (-1, 1), "high": (-2, 1)}
        for start, goal, name in [("x", "a", "x"), ("x", "x", "x"), ("x", "y", "x"), ("a", "y", "y"), ("", "y", ""),
                                  ("a", "A", "A")]:
            self.assertEqual(caught(self, UnknownName, net.add_link, start, goal, **bad).name, name)
            self.assertEqual(caught(self, UnknownName, net.add_link, start, goal).name, name)
        for start, goal in [("a", "a"), ("b", "b"), ("a", "b"), ("b", "a")]:
            for more in ({}, bad):
                error = caught(self, BadLink, net.add_link, start, goal, **more)
                self.assertEqual((error.start, error.goal), (start, goal))
        self.assertEqual(caught(self, BadBound, net.add_link, "b", "c", **bad).value, (-1, 1))
        self.assertEqual(caught(self, BadBound, net.add_link, "b", "c", low=(-1, 9)).value, (-1, 9))
        self.assertEqual(caught(self, BadBound, net.add_link, "b", "c", high=(-1, 9)).value, (-1, 9))
        self.assertEqual(caught(self, BadBound, net.add_link, "b", "c", low=(2, 1), high=(19, 10)).value, (19, 10))
        self.assertEqual(told(net), TOLD)

    def test_unknown_links(self):
        net = sample()
        for start, goal, name in [("x", "a", "x"), ("x", "y", "x"), ("a", "y", "y"), ("", "a", "")]:
            self.assertEqual(caught(self, UnknownName, net.delay_of, start, goal).name, name)
        for start, goal in [("b", "c"), ("c", "b"), ("a", "a")]:
            error = caught(self, UnknownLink, net.delay_of, start, goal)
            self.assertEqual((error.start, error.goal), (start, goal))


class KeptTest(unittest.TestCase):
    def test_lists_are_new_for_each_call(self):
        net = sample()
        names, links = net.names(), net.links()
        names.append("zzz")
        links.clear()
        self.assertEqual(told(net), TOLD)
        self.assertIsNot(net.names(), net.names())
        self.assertIsNot(net.links(), net.links())

    def test_a_clone_and_its_original_stand_apart(self):
        net = sample()
        twin = net.clone()
        self.assertIsNot(twin, net)
        self.assertIs(type(twin), Net)
        self.assertEqual(told(twin), TOLD)
        twin.add_clock("d")
        twin.add_link("b", "c", low=(1, 1))
        self.assertEqual(told(net), TOLD)
        other = net.clone()
        net.add_clock("e")
        net.add_link("c", "b")
        self.assertEqual(told(other), TOLD)
        self.assertEqual(twin.names(), ["a", "b", "c", "d"])
        self.assertIs(twin.has_link("c", "b"), False)
        self.assertEqual(told(Net().clone()), ([], []))

    def test_two_nets_share_nothing(self):
        net = sample()
        self.assertEqual(Net().names(), [])
        self.assertEqual(told(net), TOLD)


if __name__ == "__main__":
    unittest.main()
