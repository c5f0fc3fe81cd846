"""Points 46 to 50, and the interface's layers.py."""

import random
import unittest
from fractions import Fraction

from clockverdict.errors import (BadBound, BadLink, BadName, BadRate, Condemned, DuplicateName, RootFollows, UnknownLink,
                                 UnknownName)
from clockverdict.layers import Layers, is_settled, layered_net, settled
from clockverdict.nets import Net
from tests.support import ODD_VALUES, boxes, caught, check_judge, fraction, plain_rational, rat, some_rational, spoiled
from tests.support import unchanged
from tests.test_nets import BAD_NAMES, GOOD_NAMES

ROOTS = [("r", (1, 1))]
OFFERS = [("a", "r", (2, 1)), ("b", "r", (5, 1)), ("b", "a", (1, 1))]
TABLE = [("a", (3, 1), 1, "r"), ("b", (4, 1), 2, "a"), ("r", (1, 1), 0, None)]


# The points 46 to 49, written apart from the program: all chains that pass no server twice are tried.

def chains(name, roots, offers, passed=()):
    """The pairs (error, length) of all chains from the server that pass no server twice."""
    found = [(fraction(error), 0) for root, error in roots if root == name]
    for child, parent, hop in offers:
        if child == name and parent not in passed:
            for error, length in chains(parent, roots, offers, passed + (name,)):
                found.append((error + fraction(hop), length + 1))
    return found


def plain_table(roots, offers):
    names = {name for name, _ in roots} | {name for child, parent, _ in offers for name in (child, parent)}
    ranks = {name: min(chains(name, roots, offers), default=None) for name in names}
    rows = []
    for name in sorted(names):
        if ranks[name] is None:
            continue
        parents = [parent for child, parent, hop in offers if child == name and ranks[parent] is not None
                   and (ranks[parent][0] + fraction(hop), ranks[parent][1] + 1) == ranks[name]]
        rows.append((name, rat(ranks[name][0]), ranks[name][1], min(parents, default=None)))
    return rows


def plain_settled(roots, offers, value):
    if type(value) is not list or value != plain_table(roots, offers):
        return False
    return all([type(row) is tuple and plain_rational(row[1]) and type(row[2]) is int for row in value])


def some_graph(rng, most=6):
    """Roots and offers with small hops, many of them zero, so that chains are often equally good."""
    names = rng.sample(["a", "b", "c", "d", "e", "f", "g", "h"], rng.randint(1, most))
    rooted = names[:rng.randint(0, 2)]
    roots = [(name, rat(rng.choice([0, 0, 1, Fraction(1, 2)]))) for name in rooted]
    pairs = [(child, parent) for child in names for parent in names if child != parent and child not in rooted]
    offers = [(child, parent, rat(rng.choice([0, 0, Fraction(1, 2), 1, 2])))
              for child, parent in rng.sample(pairs, rng.randint(0, min(len(pairs), 14)))]
    return (roots, offers)


class SettledTest(unittest.TestCase):
    def check(self, roots, offers):
        wanted = plain_table(roots, offers)
        told = unchanged(self, settled, roots, offers)
        self.assertEqual(told, wanted)
        self.assertIs(is_settled(roots, offers, told), True)
        return told

    def test_the_document(self):
        self.assertEqual(self.check(ROOTS, OFFERS), TABLE)

    def test_by_hand(self):
        zero, one, two = (0, 1), (1, 1), (2, 1)
        for roots, offers, wanted in [
            ([], [], []), ([], OFFERS, []), (ROOTS, [], [("r", one, 0, None)]),
            # By error first: a long way with a small error wins.
            ([("r", zero)], [("a", "r", two), ("a", "b", one), ("b", "r", (1, 2))],
             [("a", (3, 2), 2, "b"), ("b", (1, 2), 1, "r"), ("r", zero, 0, None)]),
            # Of equal errors the shorter way wins.
            ([("r", zero)], [("a", "b", one), ("b", "r", one), ("a", "r", two)],
             [("a", two, 1, "r"), ("b", one, 1, "r"), ("r", zero, 0, None)]),
            # Of equal ranks the least name is the parent.
            ([("z", zero), ("y", zero)], [("a", "z", one), ("a", "y", one)],
             [("a", one, 1, "y"), ("y", zero, 0, None), ("z", zero, 0, None)]),
            ([("r", zero)], [("a", "c", one), ("a", "b", one), ("c", "r", one), ("b", "r", one)],
             [("a", two, 2, "b"), ("b", one, 1, "r"), ("c", one, 1, "r"), ("r", zero, 0, None)]),
            # A ring of hops of zero: nobody follows himself.
            ([("r", one)], [("a", "b", zero), ("b", "a", zero), ("b", "r", zero), ("c", "a", zero)],
             [("a", one, 2, "b"), ("b", one, 1, "r"), ("c", one, 3, "a"), ("r", one, 0, None)]),
            ([("r", one)], [("a", "b", zero), ("b", "a", zero)], [("r", one, 0, None)]),
            # A root far off beside a better one over others.
            ([("r", (9, 1)), ("s", zero)], [("a", "r", zero), ("a", "b", one), ("b", "s", one)],
             [("a", two, 2, "b"), ("b", one, 1, "s"), ("r", (9, 1), 0, None), ("s", zero, 0, None)]),
            ([("r", one)], [("b", "x", zero)], [("r", one, 0, None)]),
        ]:
            self.assertEqual(self.check(roots, offers), wanted)
            self.assertEqual(self.check(roots[::-1], offers[::-1]), wanted)

    def test_many(self):
        rng = random.Random(81)
        rows = 0
        for _ in range(300):
            roots, offers = some_graph(rng)
            rows += len(self.check(roots, offers))
        self.assertGreater(rows, 500)

    def test_a_long_chain(self):
        names = [f"s{at:02}" for at in range(12)]
        offers = [(child, parent, (1, 3)) for parent, child in zip(names, names[1:])]
        for order in (1, -1):
            told = settled([("s00", (0, 1))], offers[::order])
            self.assertEqual(told[-1], ("s11", (11, 3), 11, "s10"))
            self.assertEqual(told, plain_table([("s00", (0, 1))], offers))


class JudgeTest(unittest.TestCase):
    def check(self, roots, offers, values):
        return check_judge(self, lambda value: is_settled(roots, offers, value),
                           lambda value: plain_settled(roots, offers, value), values)

    def test_one_thing_wrong(self):
        counts = self.check(ROOTS, OFFERS, list(spoiled(TABLE)) + [list(TABLE)])
        self.assertGreater(counts[False], 400)
        self.assertGreater(counts[True], 0)

    def test_kinds(self):
        zero = [("a", (1, 1), 1, "r"), ("r", (0, 1), 0, None)]
        roots, offers = [("r", (0, 1))], [("a", "r", (1, 1))]
        for value, wanted in [
            (zero, True), ([("a", (True, 1), 1, "r"), zero[1]], False), ([("a", (1, True), 1, "r"), zero[1]], False),
            ([("a", (1, 1), True, "r"), zero[1]], False), ([zero[0], ("r", (False, 1), 0, None)], False),
            ([zero[0], ("r", (0, 1), False, None)], False), ([list(zero[0]), zero[1]], False), (tuple(zero), False),
            ([("a", [1, 1], 1, "r"), zero[1]], False), (zero[::-1], False), (zero[:1], False), (zero + zero[1:], False),
            ([zero[0], ("r", (0, 1), 0, "r")], False), ([("a", (1, 1), 1, None), zero[1]], False),
            ([("a", (1, 1), 1), zero[1]], False), ([("b", (1, 1), 1, "r"), zero[1]], False),
        ]:
            self.assertEqual(plain_settled(roots, offers, value), wanted)
            self.assertIs(is_settled(roots, offers, value), wanted, value)

    def test_odd_values(self):
        for roots, offers in [([], []), (ROOTS, OFFERS), ([("a", (0, 1))], [])]:
            self.check(roots, offers, ODD_VALUES)
        self.assertIs(is_settled([], [], []), True)
        self.assertIs(is_settled([], [], ()), False)

    def test_many(self):
        rng = random.Random(82)
        for _ in range(40):
            roots, offers = some_graph(rng)
            table = settled(roots, offers)
            self.check(roots, offers, list(spoiled(table))[::9] + [table])
            self.check(roots, offers[1:], [table])


class Twin:
    """A plain picture of layers: all that was done, and what the points make of it."""

    def __init__(self):
        self.roots, self.states, self.hops = {}, {}, {}

    def table(self):
        live = [name for name, state in self.states.items() if state == "live"]
        roots = [(name, error) for name, error in self.roots.items() if name in live]
        offers = [(child, parent, hop) for (child, parent), hop in self.hops.items() if child in live and parent in live]
        return plain_table(roots, offers)


def told(layers):
    """All that layers tell, but for what the states hide."""
    return ([(name, layers.state_of(name)) for name in layers.names()], layers.table())


def sample():
    """r and s are roots; a follows r, b follows a or s, c follows b; d has no offer."""
    layers = Layers()
    layers.add_server("c")
    layers.add_root("r", error=(1, 1))
    layers.add_server("b")
    layers.add_root("s")
    layers.add_server("a")
    layers.add_server("d")
    layers.offer("a", "r", hop=(1, 1))
    layers.offer("b", "a", hop=(1, 2))
    layers.offer("b", "s", hop=(3, 1))
    layers.offer("c", "b")
    return layers


SAMPLE = [("a", (2, 1), 1, "r"), ("b", (5, 2), 2, "a"), ("c", (5, 2), 3, "b"), ("r", (1, 1), 0, None),
          ("s", (0, 1), 0, None)]


class LayersCase(unittest.TestCase):
    def check(self, layers, table):
        """All methods answer as the table wants it."""
        self.assertEqual(layers.table(), table)
        rows = {row[0]: row for row in table}
        for name in layers.names():
            row = rows.get(name, (name, None, None, None))
            self.assertEqual((name, layers.error_of(name), layers.layer_of(name), layers.parent_of(name)), row)
            way = [name] if name in rows else []
            while way and rows[way[-1]][3] is not None:
                way.append(rows[way[-1]][3])
            self.assertEqual(layers.way_of(name), way)
            self.assertEqual(layers.followers_of(name), sorted([one for one in rows if rows[one][3] == name]))
            if name not in rows:
                self.assertEqual(layers.followers_of(name), [])


class LayersTest(LayersCase):
    def test_no_servers(self):
        layers = Layers()
        self.assertEqual(told(layers), ([], []))
        self.assertEqual(layers.names(), [])

    def test_the_sample(self):
        layers = sample()
        self.assertEqual(layers.names(), ["a", "b", "c", "d", "r", "s"])
        self.check(layers, SAMPLE)
        self.assertEqual(layers.way_of("c"), ["c", "b", "a", "r"])
        self.assertEqual(layers.way_of("r"), ["r"])
        self.assertEqual(layers.way_of("d"), [])
        self.assertEqual(layers.followers_of("r"), ["a"])
        self.assertEqual([layers.state_of(name) for name in layers.names()], ["live"] * 6)

    def test_left_out_arguments(self):
        one, two = Layers(), Layers()
        self.assertIsNone(one.add_root("r"))
        self.assertIsNone(two.add_root("r", error=(0, 1)))
        self.assertIsNone(one.add_server("a"))
        two.add_server("a")
        self.assertIsNone(one.offer("a", "r"))
        self.assertIsNone(two.offer("a", "r", hop=(0, 1)))
        for layers in (one, two):
            self.check(layers, [("a", (0, 1), 1, "r"), ("r", (0, 1), 0, None)])

    def test_offers_are_replaced_and_withdrawn(self):
        layers = sample()
        layers.offer("b", "a", hop=(9, 1))
        self.check(layers, [SAMPLE[0], ("b", (3, 1), 1, "s"), ("c", (3, 1), 2, "b")] + SAMPLE[3:])
        layers.offer("b", "a")
        self.check(layers, [SAMPLE[0], ("b", (2, 1), 2, "a"), ("c", (2, 1), 3, "b")] + SAMPLE[3:])
        self.assertIsNone(layers.withdraw("b", "a"))
        self.check(layers, [SAMPLE[0], ("b", (3, 1), 1, "s"), ("c", (3, 1), 2, "b")] + SAMPLE[3:])
        layers.withdraw("b", "s")
        self.check(layers, [SAMPLE[0]] + SAMPLE[3:])
        layers.offer("a", "d", hop=(0, 1))
        layers.offer("d", "s", hop=(1, 4))
        layers.offer("b", "c", hop=(0, 1))
        layers.offer("c", "d")
        self.check(layers, [("a", (1, 4), 2, "d"), ("b", (1, 4), 3, "c"), ("c", (1, 4), 2, "d"), ("d", (1, 4), 1, "s")]
                   + SAMPLE[3:])
        self.assertEqual(layers.followers_of("d"), ["a", "c"])

    def test_silent_and_awake(self):
        layers = sample()
        without_a = [("b", (3, 1), 1, "s"), ("c", (3, 1), 2, "b")] + SAMPLE[3:]
        for _ in range(2):
            self.assertIsNone(layers.silence("a"))
            self.check(layers, without_a)
            self.assertEqual(layers.state_of("a"), "silent")
        layers.offer("a", "r", hop=(0, 1))
        self.check(layers, without_a)
        for _ in range(2):
            self.assertIsNone(layers.wake("a"))
            self.assertEqual(layers.state_of("a"), "live")
            self.check(layers, [("a", (1, 1), 1, "r"), ("b", (3, 2), 2, "a"), ("c", (3, 2), 3, "b")] + SAMPLE[3:])
        layers.silence("a")
        layers.withdraw("b", "a")
        layers.wake("a")
        self.check(layers, [("a", (1, 1), 1, "r")] + without_a)

    def test_roots_that_are_silent_or_condemned(self):
        layers = sample()
        layers.silence("r")
        self.check(layers, [("b", (3, 1), 1, "s"), ("c", (3, 1), 2, "b"), SAMPLE[4]])
        self.assertEqual(caught(self, RootFollows, layers.offer, "r", "a").name, "r")
        layers.condemn("s")
        self.check(layers, [])
        self.assertEqual([layers.state_of(name) for name in ("r", "s", "a")], ["silent", "condemned", "live"])
        self.assertEqual(caught(self, RootFollows, layers.offer, "s", "x").name, "s")
        layers.wake("r")
        self.check(layers, SAMPLE[:4])

    def test_condemned_for_ever(self):
        layers = sample()
        for before in ("live", "silent"):
            if before == "silent":
                layers.silence("b")
            name = {"live": "a", "silent": "b"}[before]
            for _ in range(2):
                self.assertIsNone(layers.condemn(name))
                self.assertEqual(layers.state_of(name), "condemned")
                self.assertEqual(caught(self, Condemned, layers.wake, name).name, name)
                self.assertEqual(caught(self, Condemned, layers.silence, name).name, name)
                self.assertEqual(layers.state_of(name), "condemned")
        self.check(layers, SAMPLE[3:])
        # Its offers are kept, may be withdrawn, and new ones may be added; they do not count.
        layers.withdraw("b", "a")
        self.assertEqual(caught(self, UnknownLink, layers.withdraw, "b", "a").start, "b")
        layers.offer("a", "s", hop=(1, 1))
        layers.offer("c", "a", hop=(1, 1))
        self.check(layers, SAMPLE[3:])
        self.assertEqual(layers.names(), ["a", "b", "c", "d", "r", "s"])

    def test_wrong_servers(self):
        layers = sample()
        before = told(layers)
        for name in BAD_NAMES:
            for more in ({}, {"error": (-1, 1)}):
                self.assertEqual(caught(self, BadName, layers.add_root, name, **more).value, name)
            self.assertEqual(caught(self, BadName, layers.add_server, name).value, name)
        layers.condemn("d")
        for name in ("a", "r", "d"):
            for more in ({}, {"error": (-1, 1)}):
                self.assertEqual(caught(self, DuplicateName, layers.add_root, name, **more).name, name)
            self.assertEqual(caught(self, DuplicateName, layers.add_server, name).name, name)
        for error in [(-1, 1), (-1, 10 ** 11)]:
            self.assertEqual(caught(self, BadBound, layers.add_root, "x", error=error).value, error)
        self.assertEqual(told(layers)[1], before[1])
        self.assertEqual(layers.names(), ["a", "b", "c", "d", "r", "s"])
        for name in GOOD_NAMES:
            if name != "a":
                layers.add_server(name)
                self.assertEqual(layers.state_of(name), "live")

    def test_wrong_offers(self):
        layers = sample()
        bad = {"hop": (-1, 1)}
        for kind, wrong, child, parent, more in [
            (UnknownName, "x", "x", "y", bad), (UnknownName, "x", "x", "x", bad), (UnknownName, "", "", "a", {}),
            (RootFollows, "r", "r", "y", bad), (RootFollows, "r", "r", "r", bad), (RootFollows, "s", "s", "a", {}),
            (UnknownName, "y", "a", "y", bad), (UnknownName, "A", "a", "A", {}), (BadLink, ("a", "a"), "a", "a", bad),
            (BadLink, ("d", "d"), "d", "d", {}), (BadBound, (-1, 1), "a", "b", bad),
            (BadBound, (-1, 99), "a", "r", {"hop": (-1, 99)}),
        ]:
            error = caught(self, kind, layers.offer, child, parent, **more)
            if kind is BadLink:
                self.assertEqual((error.start, error.goal), wrong)
            else:
                self.assertEqual(list(vars(error).values()), [wrong])
            self.check(layers, SAMPLE)
        for child, parent, name in [("x", "y", "x"), ("x", "a", "x"), ("a", "y", "y"), ("r", "", "")]:
            self.assertEqual(caught(self, UnknownName, layers.withdraw, child, parent).name, name)
        for child, parent in [("a", "s"), ("r", "a"), ("a", "a"), ("d", "b")]:
            error = caught(self, UnknownLink, layers.withdraw, child, parent)
            self.assertEqual((error.start, error.goal), (child, parent))
        self.check(layers, SAMPLE)

    def test_unknown_servers(self):
        layers = sample()
        for name in ("x", "", "A"):
            for call in (layers.silence, layers.wake, layers.condemn, layers.state_of, layers.error_of, layers.layer_of,
                         layers.parent_of, layers.way_of, layers.followers_of):
                self.assertEqual(caught(self, UnknownName, call, name).name, name)
        self.check(layers, SAMPLE)

    def test_many(self):
        rng = random.Random(83)
        names = ["a", "b", "c", "d", "e", "f"]
        for _ in range(60):
            layers, twin = Layers(), Twin()
            for name in names:
                if rng.random() < 0.3:
                    twin.roots[name] = some_rational(rng, 0, 3, 2)
                    layers.add_root(name, error=twin.roots[name])
                else:
                    layers.add_server(name)
                twin.states[name] = "live"
            for _ in range(25):
                self.some_deed(rng, names, layers, twin)
                self.check(layers, twin.table())
                self.assertEqual([layers.state_of(name) for name in names], [twin.states[name] for name in names])

    def some_deed(self, rng, names, layers, twin):
        child, parent = rng.sample(names, 2)
        deed = rng.choice(["offer", "offer", "offer", "withdraw", "silence", "wake", "wake", "condemn"])
        if deed == "offer" and child not in twin.roots:
            twin.hops[(child, parent)] = rng.choice([(0, 1), (1, 2), (1, 1)])
            layers.offer(child, parent, hop=twin.hops[(child, parent)])
        elif deed == "withdraw" and (child, parent) in twin.hops:
            del twin.hops[(child, parent)]
            layers.withdraw(child, parent)
        elif deed == "condemn" and rng.random() < 0.2:
            twin.states[child] = "condemned"
            layers.condemn(child)
        elif deed in ("silence", "wake") and twin.states[child] != "condemned":
            twin.states[child] = {"silence": "silent", "wake": "live"}[deed]
            {"silence": layers.silence, "wake": layers.wake}[deed](child)

    def test_the_table_is_settled(self):
        layers = sample()
        roots = [("r", (1, 1)), ("s", (0, 1))]
        offers = [("a", "r", (1, 1)), ("b", "a", (1, 2)), ("b", "s", (3, 1)), ("c", "b", (0, 1))]
        self.assertEqual(settled(roots, offers), layers.table())
        self.assertIs(is_settled(roots, offers, layers.table()), True)
        layers.silence("a")
        self.assertEqual(settled(roots, offers[2:]), layers.table())
        self.assertIs(is_settled(roots, offers, layers.table()), False)


class KeptTest(LayersCase):
    def test_a_clone_and_its_original_stand_apart(self):
        layers = sample()
        layers.silence("d")
        layers.condemn("s")
        twin = layers.clone()
        self.assertIs(type(twin), Layers)
        self.assertIsNot(twin, layers)
        self.assertEqual(told(twin), told(layers))
        before = told(layers)
        twin.offer("a", "r", hop=(7, 1))
        twin.offer("d", "a")
        twin.withdraw("b", "a")
        twin.wake("d")
        twin.condemn("c")
        twin.add_root("t")
        twin.add_server("e")
        self.assertEqual(told(layers), before)
        self.assertEqual(layers.names(), ["a", "b", "c", "d", "r", "s"])
        other = layers.clone()
        layers.withdraw("a", "r")
        layers.silence("b")
        layers.add_server("q")
        self.assertEqual(told(other), before)
        self.assertEqual(caught(self, UnknownLink, layers.withdraw, "a", "r").goal, "r")
        other.withdraw("a", "r")
        self.assertEqual(told(Layers().clone()), ([], []))

    def test_offers_of_servers_that_are_not_live_are_cloned(self):
        layers = sample()
        layers.silence("a")
        twin = layers.clone()
        twin.wake("a")
        self.check(twin, SAMPLE)
        self.assertEqual(caught(self, RootFollows, twin.offer, "r", "a").name, "r")

    def test_results_are_the_callers(self):
        layers = sample()
        for call in (layers.names, layers.table, lambda: layers.way_of("c"), lambda: layers.followers_of("r")):
            wanted = list(call())
            call().clear()
            self.assertEqual(call(), wanted)
            self.assertEqual(len({id(part) for part in boxes([call(), call()])}), 3)
        roots, offers = list(ROOTS), list(OFFERS)
        settled(roots, offers).clear()
        self.assertEqual((roots, offers), (ROOTS, OFFERS))


class NetTest(unittest.TestCase):
    def check(self, layers, net, rates=((1, 1), (1, 1))):
        self.assertIs(type(net), Net)
        self.assertEqual(net.names(), layers.names())
        self.assertEqual(net.links(), [])
        for name in layers.names():
            self.assertEqual(net.rates_of(name), rates)
            self.assertEqual(net.error_of(name), layers.error_of(name))

    def test_a_clock_for_each_server(self):
        layers = sample()
        layers.silence("s")
        layers.condemn("c")
        net = layered_net(layers)
        self.check(layers, net)
        self.assertEqual([net.error_of(name) for name in net.names()], [(2, 1), (5, 2), None, None, (1, 1), None])
        self.check(layers, layered_net(layers, slow=(1, 1), fast=(1, 1)))
        self.check(layers, layered_net(layers, slow=(1, 2)), ((1, 2), (1, 1)))
        self.check(layers, layered_net(layers, fast=(3, 2)), ((1, 1), (3, 2)))
        self.check(layers, layered_net(layers, slow=(2, 1), fast=(2, 1)), ((2, 1), (2, 1)))
        layers.wake("s")
        self.assertIsNone(net.error_of("s"))
        self.assertIsNot(layered_net(layers), layered_net(layers))

    def test_without_servers(self):
        self.check(Layers(), layered_net(Layers()))

    def test_wrong_rates(self):
        for layers in (Layers(), sample()):
            for slow, fast, wrong in [((0, 1), (1, 1), (0, 1)), ((-1, 2), (-1, 1), (-1, 2)), ((1, 1), (99, 100), (99, 100)),
                                      ((1, 2), (0, 1), (0, 1))]:
                error = caught(self, BadRate, lambda: layered_net(layers, slow=slow, fast=fast))
                self.assertEqual(error.value, wrong)
            self.assertEqual(caught(self, BadRate, lambda: layered_net(layers, slow=(3, 2))).value, (1, 1))


if __name__ == "__main__":
    unittest.main()
