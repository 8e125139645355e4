"""[1], [2], [3] and the interface, over the whole program."""

import inspect
import unittest
from copy import deepcopy
from importlib import import_module
from time import monotonic

from helper import (
    EDGE_NETS, NOTHINGS, PAIRS, SMALL_FLOOR, SMALL_NET, SMALL_WARE, bends, drawn_nets, lists_in, plainly_shows_fair,
    plainly_shows_share, refusal, with_part,
)
from sharedways.errors import BadNet
from sharedways.fair import fair_shares, shows_fair
from sharedways.floors import both_go, cut_bars, double_goes
from sharedways.nets import brought, goes, need_net
from sharedways.shares import greatest_share, shows_share

ONE = (1, 1)
FLOORS = [
    ((2, [(0, 1, 3)]), (0, 1, 2), (1, 0, 1)),
    ((2, [(0, 1, 3)]), (0, 1, 2), (1, 0, 2)),
    ((4, [(0, 1, 1), (0, 3, 1), (1, 2, 1), (2, 3, 1)]), (0, 2, 1), (1, 3, 1)),
    ((8, []), (0, 7, 0), (0, 7, 0)),
    ((8, []), (0, 7, 1), (0, 7, 0)),
]
SOME_SECONDS = 5


class Interface(unittest.TestCase):
    def test_names_and_arguments(self):
        wanted = {
            "nets": {"need_net": ["net"], "goes": ["net", "flow"], "brought": ["net", "flow"]},
            "shares": {"greatest_share": ["net"], "shows_share": ["net", "triple"]},
            "fair": {"fair_shares": ["net"], "shows_fair": ["net", "triple"]},
            "floors": {
                "both_go": ["floor", "one", "other"],
                "double_goes": ["floor", "one", "other", "double"],
                "cut_bars": ["floor", "one", "other", "cut"],
            },
        }
        for file, functions in wanted.items():
            for name, arguments in functions.items():
                found = getattr(import_module(f"sharedways.{file}"), name)
                self.assertEqual(found.__module__, f"sharedways.{file}")
                self.assertEqual(list(inspect.signature(found).parameters), arguments)


class Handed(unittest.TestCase):
    def call(self, function, *arguments):
        """What is told, the same when asked again, all of its lists new ones and what is handed in as it was."""
        before = repr(arguments)
        first, second = function(*arguments), function(*arguments)
        copied = function(*deepcopy(arguments))
        self.assertEqual(repr(first), repr(second))
        self.assertEqual(repr(first), repr(copied))
        self.assertEqual(repr(arguments), before)
        lists = lists_in(first) + lists_in(second) + lists_in(arguments)
        self.assertEqual(len({id(each) for each in lists}), len(lists), (function, arguments))
        return first

    def spoil(self, thing):
        for each in lists_in(thing):
            each.append(None)
            each[0] = None

    def check_told_is_not_kept(self, function, *arguments):
        first = function(*arguments)
        before = repr(first)
        self.spoil(first)
        self.assertEqual(repr(function(*arguments)), before)

    def check_handed_is_not_kept(self, function, arguments, others):
        """Changed after a call, what was handed in is answered as a thing of its own."""
        wanted = repr(function(*deepcopy(others)))
        function(*arguments)
        for own, other in zip(arguments, others):
            for row, new in zip(own, other):
                if isinstance(row, list):
                    row[:] = new
        self.assertEqual(repr(function(*arguments)), wanted)

    def test_nets(self):
        for net in EDGE_NETS + drawn_nets(11, 40):
            share, fair = self.call(greatest_share, net), self.call(fair_shares, net)
            self.assertIs(self.call(shows_share, net, share), True)
            self.assertIs(self.call(shows_fair, net, fair), True)
            self.assertIs(self.call(shows_share, net, fair), False)
            self.assertIs(self.call(shows_fair, net, share), False)
            self.assertIs(self.call(goes, net, fair[1]), True)
            self.call(brought, net, fair[1])
            self.check_told_is_not_kept(greatest_share, net)
            self.check_told_is_not_kept(fair_shares, net)

    def test_floors(self):
        for floor, one, other in FLOORS:
            kind, told = self.call(both_go, floor, one, other)
            self.assertIs(self.call(double_goes, floor, one, other, told), kind == "double")
            self.assertIs(self.call(cut_bars, floor, one, other, told), kind == "cut")
            self.check_told_is_not_kept(both_go, floor, one, other)

    def test_what_was_handed_in_is_not_kept(self):
        net, other = (3, [(0, 1, 3)], [(0, 1, 2)]), (3, [(0, 1, 5), (1, 2, 4)], [(0, 2, 3), (0, 1, 1)])
        self.check_handed_is_not_kept(greatest_share, (deepcopy(net),), (other,))
        self.check_handed_is_not_kept(fair_shares, (deepcopy(net),), (other,))
        floor, other = (3, [(0, 1, 3)]), (3, [(0, 1, 1), (0, 2, 5), (1, 2, 1)])
        self.check_handed_is_not_kept(both_go, (floor, (0, 1, 2), (1, 0, 1)), (other, (0, 1, 2), (1, 0, 1)))

    def test_calls_that_refuse(self):
        for net in bends(SMALL_NET):
            before = repr(net)
            for function, more in ((greatest_share, ()), (fair_shares, ()), (shows_share, (None,)), (shows_fair, (None,))):
                self.assertIn(refusal(function, net, *more), (None, BadNet))
                self.assertEqual(repr(net), before)


class Refused(unittest.TestCase):
    def is_none(self, net):
        """BadNet by its class alone, from each that takes a net, ahead of False too."""
        self.assertIs(refusal(need_net, net), BadNet, net)
        self.assertIs(refusal(greatest_share, net), BadNet, net)
        self.assertIs(refusal(fair_shares, net), BadNet, net)
        for triple in (None, greatest_share(SMALL_NET), fair_shares(SMALL_NET), (), [], (ONE, [], ([], []))):
            self.assertIs(refusal(shows_share, net, triple), BadNet, net)
            self.assertIs(refusal(shows_fair, net, triple), BadNet, net)

    def test_whatever_is_no_net(self):
        for thing in NOTHINGS:
            self.is_none(thing)
        for path in ((0,), (1,), (2,), (1, 0), (2, 0), (1, 0, 2), (2, 0, 2)):
            for thing in (None, "ab", 1.0, True, False, -1, 21, (), (0, 1), [0, 1, 1], ((0, 1, 1),)):
                self.is_none(with_part(SMALL_NET, path, thing))

    def test_just_beyond_the_edges(self):
        for net in (
            (1, [], [(0, 1, 1)]), (7, [], [(0, 1, 1)]), (6, [pair + (1,) for pair in PAIRS[:11]], [(0, 1, 1)]),
            (2, [], []), (2, [], [(0, 1, 1)] * 4), (2, [(0, 1, 0)], [(0, 1, 1)]), (2, [(0, 1, 21)], [(0, 1, 1)]),
            (2, [], [(0, 1, 0)]), (2, [], [(0, 1, 21)]), (2, [(0, 1, 1), (0, 1, 2)], [(0, 1, 1)]),
            (2, [(1, 0, 1), (0, 1, 1)], [(0, 1, 1)]), (2, [], [(0, 0, 1)]), (2, [], [(0, 2, 1)]),
            (2, [(0, 1, True)], [(0, 1, 1)]), (2, ((0, 1, 1),), [(0, 1, 1)]), (2, [[0, 1, 1]], [(0, 1, 1)]),
        ):
            self.is_none(net)

    def test_floors_are_no_nets_and_nets_no_floors(self):
        self.is_none(SMALL_FLOOR)
        self.assertEqual(refusal(both_go, SMALL_NET, SMALL_WARE, SMALL_WARE).__name__, "BadFloor")


class Swift(unittest.TestCase):
    def swiftly(self, function, *arguments):
        start = monotonic()
        told = function(*arguments)
        self.assertLess(monotonic() - start, SOME_SECONDS, arguments)
        return told

    def check_net(self, net):
        share, fair = self.swiftly(greatest_share, net), self.swiftly(fair_shares, net)
        self.assertTrue(plainly_shows_share(net, share))
        self.assertTrue(plainly_shows_fair(net, fair))
        self.assertIs(self.swiftly(shows_share, net, share), True)
        self.assertIs(self.swiftly(shows_fair, net, fair), True)

    def test_greatest_nets(self):
        forward = [(0, 1), (0, 2), (1, 2), (1, 3), (2, 3), (2, 4), (3, 4), (3, 5), (4, 5), (0, 5)]
        around = [(0, 1), (1, 0), (1, 2), (2, 1), (2, 3), (3, 2), (3, 4), (4, 3), (4, 5), (5, 4)]
        primes = [19, 17, 13, 11, 7, 5, 3, 2, 20, 1]
        for pairs in (forward, around, PAIRS[:10], PAIRS[-10:]):
            ways = [pair + (room,) for pair, room in zip(sorted(pairs), primes)]
            for wares in ([(0, 5, 19), (0, 5, 17), (0, 5, 13)], [(0, 5, 19), (0, 4, 17), (1, 5, 13)],
                          [(0, 5, 20), (5, 0, 20), (2, 3, 20)], [(0, 3, 7), (1, 4, 11), (2, 5, 20)]):
                self.check_net((6, ways, wares))

    def test_greatest_floors(self):
        pairs = [(one, other) for one in range(8) for other in range(one + 1, 8)]
        for chosen in (pairs[:16], pairs[-16:], pairs[::2] + pairs[1:4:2]):
            floor = (8, [pair + (20,) for pair in sorted(chosen)])
            for wanted in (0, 7, 10, 20, 50, 200):
                for one, other in (((0, 7), (1, 6)), ((0, 7), (7, 0)), ((0, 4), (0, 5))):
                    kind, told = self.swiftly(both_go, floor, one + (wanted,), other + (wanted,))
                    shows = double_goes if kind == "double" else cut_bars
                    self.assertIs(self.swiftly(shows, floor, one + (wanted,), other + (wanted,), told), True)


if __name__ == "__main__":
    unittest.main()
