"""[11]: nets, and BadNet of others."""

import unittest
from copy import deepcopy

from helper import NOTHINGS, SMALL_FLOW, SMALL_NET, refusal, with_part
from sharedways.errors import BadNet
from sharedways.nets import brought, goes, need_net

PAIRS = [(start, goal) for start in range(6) for goal in range(6) if start != goal]


def net_of(places=2, ways=(), wares=((0, 1, 1),)):
    return (places, list(ways), list(wares))


class NetCase(unittest.TestCase):
    def is_net(self, net):
        before = deepcopy(net)
        self.assertIsNone(need_net(net))
        self.assertEqual(net, before)

    def is_none(self, net):
        """BadNet by its class alone, from all that take a net, whatever flow is handed in with it."""
        self.assertIs(refusal(need_net, net), BadNet, net)
        for flow in (SMALL_FLOW, None, [[]]):
            self.assertIs(refusal(goes, net, flow), BadNet, net)
            self.assertIs(refusal(brought, net, flow), BadNet, net)

    def is_none_and_as_it_was(self, net):
        before = deepcopy(net)
        self.is_none(net)
        self.assertEqual(net, before)


class Bounds(NetCase):
    def test_places(self):
        for places in range(2, 7):
            self.is_net(net_of(places))
        for places in (-2, 0, 1, 7, 8, 10 ** 30):
            self.is_none_and_as_it_was(net_of(places))

    def test_how_many_ways(self):
        for many in range(11):
            self.is_net(net_of(6, [pair + (1,) for pair in PAIRS[:many]]))
        for many in (11, 12, 30):
            self.is_none_and_as_it_was(net_of(6, [pair + (1,) for pair in PAIRS[:many]]))

    def test_how_many_wares(self):
        for many in (1, 2, 3):
            self.is_net(net_of(3, wares=[(0, 1, 1), (1, 2, 1), (2, 0, 1)][:many]))
        for many in (0, 4, 5):
            self.is_none_and_as_it_was(net_of(6, wares=[pair + (1,) for pair in PAIRS[:many]]))

    def test_rooms(self):
        for room in range(1, 21):
            self.is_net(net_of(ways=[(0, 1, room)]))
        for room in (-1, 0, 21, 22, 10 ** 30, -10 ** 30):
            self.is_none_and_as_it_was(net_of(ways=[(0, 1, room)]))

    def test_wants(self):
        for wanted in range(1, 21):
            self.is_net(net_of(wares=[(0, 1, wanted)]))
        for wanted in (-1, 0, 21, 22, 10 ** 30, -10 ** 30):
            self.is_none_and_as_it_was(net_of(wares=[(0, 1, wanted)]))

    def test_the_greatest_net(self):
        self.is_net((6, [pair + (20,) for pair in PAIRS[-10:]], [(5, 0, 20), (0, 5, 20), (4, 5, 20)]))

    def test_a_fault_behind_the_first_is_seen_too(self):
        self.is_none(net_of(3, [(0, 1, 1), (0, 2, 0)]))
        self.is_none(net_of(3, [(0, 1, 1), (0, 2, 20), (1, 2, 21)]))
        self.is_none(net_of(3, wares=[(0, 1, 1), (0, 2, 0)]))
        self.is_none(net_of(3, wares=[(0, 1, 1), (0, 2, 20), (1, 2, 21)]))


class Places(NetCase):
    def test_all_pairs_of_places(self):
        for places in range(2, 7):
            for start in range(-2, places + 2):
                for goal in range(-2, places + 2):
                    there = start in range(places) and goal in range(places) and start != goal
                    check = self.is_net if there else self.is_none_and_as_it_was
                    check(net_of(places, ways=[(start, goal, 1)]))
                    check(net_of(places, wares=[(start, goal, 1)]))


class Order(NetCase):
    def test_both_turns_of_the_same_places(self):
        self.is_net(net_of(ways=[(0, 1, 1), (1, 0, 1)]))
        self.is_net(net_of(ways=[(0, 1, 20), (1, 0, 1)]))

    def test_rising_ways(self):
        self.is_net(net_of(3, [(0, 1, 9), (0, 2, 3), (1, 0, 5), (2, 0, 4), (2, 1, 4)]))

    def test_ways_that_do_not_rise(self):
        self.is_none_and_as_it_was(net_of(3, [(0, 2, 1), (0, 1, 1)]))
        self.is_none_and_as_it_was(net_of(3, [(0, 2, 1), (0, 1, 2)]))
        self.is_none_and_as_it_was(net_of(3, [(1, 0, 1), (0, 1, 1)]))
        self.is_none_and_as_it_was(net_of(3, [(1, 0, 1), (0, 2, 2)]))
        self.is_none_and_as_it_was(net_of(3, [(0, 1, 1), (2, 0, 1), (1, 2, 1)]))
        self.is_none_and_as_it_was(net_of(3, [(0, 1, 1), (2, 0, 1), (1, 2, 1), (2, 1, 1)]))

    def test_the_same_places_in_the_same_turn(self):
        self.is_none_and_as_it_was(net_of(ways=[(0, 1, 1), (0, 1, 1)]))
        self.is_none_and_as_it_was(net_of(ways=[(0, 1, 1), (0, 1, 2)]))
        self.is_none_and_as_it_was(net_of(ways=[(0, 1, 2), (0, 1, 1)]))
        self.is_none_and_as_it_was(net_of(3, [(0, 1, 1), (0, 2, 1), (2, 1, 3), (2, 1, 4)]))

    def test_wares_need_not_rise_and_may_be_alike(self):
        self.is_net(net_of(3, wares=[(2, 1, 5), (0, 1, 3)]))
        self.is_net(net_of(3, wares=[(0, 1, 5), (0, 1, 3)]))
        self.is_net(net_of(3, wares=[(0, 1, 5), (1, 0, 5), (0, 1, 5)]))


class Kinds(NetCase):
    def test_things_that_are_no_net_at_all(self):
        for thing in NOTHINGS:
            self.is_none(thing)

    def test_such_things_in_the_place_of_a_part(self):
        numbers = [(part, 0, number) for part in (1, 2) for number in range(3)]
        for path in [(0,), (1,), (2,), (1, 0), (2, 0)] + numbers:
            for thing in NOTHINGS:
                # What may stand there does so in the other tests.
                fits = type(thing) is int and 0 <= thing <= 20 or path == (1,) and thing == []
                if not fits and not hasattr(thing, "__next__"):
                    self.is_none(with_part(SMALL_NET, path, thing))

    def test_lists_in_the_place_of_tuples(self):
        self.is_none_and_as_it_was([2, [(0, 1, 3)], [(0, 1, 2)]])
        self.is_none_and_as_it_was((2, [[0, 1, 3]], [(0, 1, 2)]))
        self.is_none_and_as_it_was((2, [(0, 1, 3)], [[0, 1, 2]]))
        self.is_none_and_as_it_was((2, [(0, 1, 3), [1, 0, 3]], [(0, 1, 2)]))

    def test_tuples_in_the_place_of_lists(self):
        self.is_none_and_as_it_was((2, ((0, 1, 3),), [(0, 1, 2)]))
        self.is_none_and_as_it_was((2, (), [(0, 1, 2)]))
        self.is_none_and_as_it_was((2, [(0, 1, 3)], ((0, 1, 2),)))

    def test_too_few_and_too_many_parts(self):
        self.is_none_and_as_it_was(SMALL_NET[:2])
        self.is_none_and_as_it_was(SMALL_NET + ([],))
        for wrong in ((), (0,), (0, 1), (0, 1, 2, 3), (0, 1, 2, None)):
            self.is_none_and_as_it_was(net_of(ways=[wrong]))
            self.is_none_and_as_it_was(net_of(wares=[wrong]))

    def test_truths_in_the_place_of_whole_numbers(self):
        for wrong in (True, False):
            self.is_none_and_as_it_was(net_of(wrong))
        for wrong in ((False, 1, 1), (True, 0, 1), (0, True, 1), (1, False, 1), (0, 1, True), (0, 1, False)):
            self.is_none_and_as_it_was(net_of(ways=[wrong]))
            self.is_none_and_as_it_was(net_of(wares=[wrong]))

    def test_other_numbers_in_the_place_of_whole_numbers(self):
        self.is_none_and_as_it_was(net_of(2.0))
        for wrong in ((0.0, 1, 1), (0, 1.0, 1), (0, 1, 1.0), (0, 1, "1"), (0, 1, (1, 1))):
            self.is_none_and_as_it_was(net_of(ways=[wrong]))
            self.is_none_and_as_it_was(net_of(wares=[wrong]))

    def test_a_list_that_holds_itself(self):
        ring = []
        ring.append(ring)
        self.is_none(ring)
        self.is_none((2, ring, [(0, 1, 1)]))
        self.is_none((2, [], ring))


if __name__ == "__main__":
    unittest.main()
