"""[12], [1], [3]: flows, whether they go, what they bring, and BadFlow of others."""

import unittest
from copy import deepcopy
from itertools import product

from helper import NOTHINGS, SMALL_FLOW, SMALL_NET, plainly, refusal, with_part
from sharedways.errors import BadFlow, BadNet
from sharedways.nets import brought, goes, need_net

NONE, HALF, ONE, TWO = (0, 1), (1, 2), (1, 1), (2, 1)
LINE = (3, [(0, 1, 2), (1, 2, 3)], [(0, 2, 5)])
SHARED = (4, [(0, 2, 3), (1, 2, 3), (2, 3, 1)], [(0, 3, 1), (1, 3, 1)])
RING = (3, [(0, 1, 1), (1, 2, 1), (2, 0, 1)], [(0, 1, 1)])
TURNS = (2, [(0, 1, 3), (1, 0, 3)], [(0, 1, 1)])
BUSY = (3, [(0, 1, 1), (1, 2, 1), (2, 1, 1)], [(0, 2, 1), (1, 2, 2)])


class FlowCase(unittest.TestCase):
    def goes(self, net, flow, wanted):
        before = deepcopy((net, flow))
        self.assertIs(goes(net, flow), wanted, (net, flow))
        self.assertIs(goes(net, flow), wanted)
        self.assertEqual((net, flow), before)

    def brings(self, net, flow, wanted):
        before = deepcopy((net, flow))
        told = brought(net, flow)
        self.assertEqual(told, wanted)
        self.assertIs(type(told), list)
        for fraction in told:
            self.assertEqual([type(fraction)] + [type(part) for part in fraction], [tuple, int, int])
        self.assertEqual((net, flow), before)

    def is_none(self, net, flow):
        self.assertIs(refusal(goes, net, flow), BadFlow, flow)
        self.assertIs(refusal(brought, net, flow), BadFlow, flow)

    def is_none_and_as_it_was(self, net, flow):
        before = deepcopy((net, flow))
        self.is_none(net, flow)
        self.assertEqual((net, flow), before)


class Going(FlowCase):
    def test_nothing_goes_everywhere(self):
        self.goes(LINE, [[NONE, NONE]], True)
        self.goes(SHARED, [[NONE] * 3, [NONE] * 3], True)

    def test_a_net_without_ways(self):
        self.goes((2, [], [(0, 1, 1)]), [[]], True)
        self.goes((6, [], [(0, 1, 1), (5, 4, 20), (0, 1, 1)]), [[], [], []], True)

    def test_as_much_comes_as_leaves(self):
        self.goes(LINE, [[TWO, TWO]], True)
        self.goes(LINE, [[(3, 7), (3, 7)]], True)

    def test_something_is_lost(self):
        self.goes(LINE, [[TWO, ONE]], False)
        self.goes(LINE, [[(1, 1000), NONE]], False)

    def test_something_comes_from_nowhere(self):
        self.goes(LINE, [[ONE, TWO]], False)
        self.goes(LINE, [[NONE, (1, 1000)]], False)

    def test_loss_at_the_first_and_the_last_place_of_the_net(self):
        self.goes((3, [(1, 0, 5)], [(1, 2, 1)]), [[ONE]], False)
        self.goes((3, [(0, 2, 5)], [(0, 1, 1)]), [[ONE]], False)
        self.goes((6, [(0, 5, 5)], [(0, 1, 1)]), [[ONE]], False)

    def test_the_wares_own_places_need_not_keep(self):
        self.goes(TURNS, [[ONE, NONE]], True)
        self.goes(TURNS, [[NONE, ONE]], True)
        self.goes(TURNS, [[ONE, TWO]], True)

    def test_an_end_of_another_ware_is_no_end(self):
        self.goes(SHARED, [[NONE] * 3, [NONE, ONE, ONE]], True)
        net = (3, [(0, 1, 9), (1, 2, 9)], [(0, 2, 1), (0, 1, 1), (1, 2, 1)])
        self.goes(net, [[NONE, NONE], [ONE, NONE], [NONE, ONE]], True)
        self.goes(net, [[ONE, NONE], [NONE, NONE], [NONE, NONE]], False)
        self.goes(net, [[NONE, NONE], [NONE, ONE], [NONE, NONE]], False)
        self.goes(net, [[NONE, NONE], [NONE, NONE], [ONE, NONE]], False)

    def test_what_one_ware_loses_another_cannot_make_up(self):
        net = (3, [(0, 1, 9), (1, 2, 9)], [(0, 2, 1), (0, 2, 1)])
        self.goes(net, [[ONE, NONE], [NONE, ONE]], False)
        self.goes(net, [[ONE, ONE], [ONE, NONE]], False)
        self.goes(net, [[ONE, NONE], [ONE, ONE]], False)

    def test_rounds(self):
        self.goes(RING, [[ONE, ONE, ONE]], True)
        self.goes(RING, [[ONE, HALF, HALF]], True)
        self.goes(RING, [[ONE, HALF, (1, 3)]], False)

    def test_what_is_split_comes_together(self):
        net = (4, [(0, 1, 1), (0, 2, 1), (1, 3, 1), (2, 3, 1)], [(0, 3, 1)])
        self.goes(net, [[(1, 3), (2, 3), (1, 3), (2, 3)]], True)
        self.goes(net, [[(1, 3), (2, 3), (2, 3), (1, 3)]], False)


class Room(FlowCase):
    def test_just_as_much_as_the_room(self):
        self.goes(SMALL_NET, [[(3, 1)]], True)
        self.goes((2, [(0, 1, 1)], [(0, 1, 20)]), [[ONE]], True)
        self.goes((2, [(0, 1, 20)], [(0, 1, 1)]), [[(20, 1)]], True)

    def test_a_little_more_and_a_little_less(self):
        self.goes(SMALL_NET, [[(3 * 10 ** 30 + 1, 10 ** 30)]], False)
        self.goes(SMALL_NET, [[(3 * 10 ** 30 - 1, 10 ** 30)]], True)
        self.goes(SMALL_NET, [[(4, 1)]], False)

    def test_all_wares_together(self):
        self.goes(SHARED, [[HALF, NONE, HALF], [NONE, HALF, HALF]], True)
        self.goes(SHARED, [[(1, 3), NONE, (1, 3)], [NONE, (2, 3), (2, 3)]], True)
        self.goes(SHARED, [[HALF, NONE, HALF], [NONE, (2, 3), (2, 3)]], False)
        self.goes(SHARED, [[ONE, NONE, ONE], [NONE, ONE, ONE]], False)

    def test_three_wares_together(self):
        net = (2, [(0, 1, 1)], [(0, 1, 1), (0, 1, 1), (0, 1, 1)])
        self.goes(net, [[HALF], [(1, 3)], [(1, 6)]], True)
        self.goes(net, [[HALF], [(1, 3)], [(1, 5)]], False)

    def test_the_two_turns_have_a_room_each(self):
        net = (2, [(0, 1, 1), (1, 0, 1)], [(0, 1, 1), (1, 0, 1)])
        self.goes(net, [[ONE, NONE], [NONE, ONE]], True)
        self.goes(net, [[ONE, HALF], [NONE, ONE]], False)

    def test_each_way_is_looked_at(self):
        net = (3, [(0, 1, 2), (0, 2, 2), (1, 2, 2)], [(0, 1, 1)])
        self.goes((3, [(0, 1, 1), (1, 2, 2)], [(0, 2, 1)]), [[TWO, TWO]], False)
        self.goes((3, [(0, 1, 2), (1, 2, 1)], [(0, 2, 1)]), [[TWO, TWO]], False)
        self.goes((3, [(0, 1, 2), (1, 2, 2)], [(0, 2, 1)]), [[TWO, TWO]], True)
        self.goes(net, [[(3, 1), NONE, NONE]], False)

    def test_what_is_wanted_bounds_nothing(self):
        self.goes((2, [(0, 1, 20)], [(0, 1, 1)]), [[(20, 1)]], True)
        self.goes((2, [(0, 1, 20)], [(0, 1, 20)]), [[(1, 100)]], True)


class Bringing(FlowCase):
    def test_what_comes_to_the_goal(self):
        self.brings(LINE, [[TWO, TWO]], [TWO])
        self.brings(SHARED, [[HALF, NONE, HALF], [NONE, (1, 3), (1, 3)]], [HALF, (1, 3)])

    def test_nothing(self):
        self.brings(LINE, [[NONE, NONE]], [NONE])
        self.brings((2, [], [(0, 1, 1), (1, 0, 1)]), [[], []], [NONE, NONE])

    def test_without_a_common_divisor(self):
        net = (3, [(0, 2, 1), (1, 2, 1)], [(0, 2, 1), (1, 2, 1), (2, 0, 1)])
        flow = [[(1, 6), (1, 3)], [HALF, HALF], [(1, 6), NONE]]
        self.brings(net, flow, [HALF, ONE, (-1, 6)])

    def test_less_what_leaves_the_goal(self):
        self.brings(TURNS, [[TWO, HALF]], [(3, 2)])
        self.brings(TURNS, [[HALF, HALF]], [NONE])
        self.brings(RING, [[ONE, ONE, ONE]], [NONE])
        self.brings(RING, [[ONE, (1, 3), (1, 3)]], [(2, 3)])

    def test_below_nought(self):
        self.brings(TURNS, [[NONE, HALF]], [(-1, 2)])
        self.brings(TURNS, [[(1, 3), HALF]], [(-1, 6)])
        self.goes(TURNS, [[NONE, HALF]], True)

    def test_of_each_ware_at_its_own_goal(self):
        self.brings(BUSY, [[ONE, HALF, NONE], [NONE, ONE, (1, 3)]], [HALF, (2, 3)])
        net = (2, [(0, 1, 3), (1, 0, 3)], [(0, 1, 1), (1, 0, 1)])
        self.brings(net, [[TWO, HALF], [TWO, HALF]], [(3, 2), (-3, 2)])

    def test_of_flows_that_do_not_go(self):
        self.brings(LINE, [[TWO, ONE]], [ONE])
        self.brings(LINE, [[NONE, (100, 3)]], [(100, 3)])

    def test_great_numbers(self):
        great = 10 ** 60
        self.brings(TURNS, [[(great + 1, great), (1, great)]], [ONE])

    def test_the_list_is_new_each_time(self):
        flow = deepcopy(SMALL_FLOW)
        first = brought(SMALL_NET, flow)
        second = brought(SMALL_NET, flow)
        self.assertEqual(first, second)
        self.assertIsNot(first, second)
        self.assertIsNot(first, flow[0])
        first.append(None)
        first[0] = None
        self.assertEqual(brought(SMALL_NET, flow), second)
        self.assertEqual(flow, SMALL_FLOW)

    def test_what_was_handed_in_is_not_kept(self):
        net, flow = deepcopy(SMALL_NET), deepcopy(SMALL_FLOW)
        self.assertEqual((brought(net, flow), goes(net, flow)), ([HALF], True))
        flow[0][0] = (7, 2)
        self.assertEqual((brought(net, flow), goes(net, flow)), ([(7, 2)], False))
        net[1][0] = (0, 1, 4)
        self.assertEqual((brought(net, flow), goes(net, flow)), ([(7, 2)], True))
        net[2][0] = (1, 0, 1)
        self.assertEqual(brought(net, flow), [(-7, 2)])
        net[1].append((0, 1, 4))
        self.assertIs(refusal(need_net, net), BadNet)


class AllSmallFlows(FlowCase):
    def test_all_flows_of_few_amounts(self):
        seen = {True: 0, False: 0}
        for net in (BUSY, RING, TURNS, LINE, SHARED):
            ways, wares = len(net[1]), len(net[2])
            for amounts in product((NONE, HALF, ONE), repeat=ways * wares):
                flow = [list(amounts[ways * ware:ways * (ware + 1)]) for ware in range(wares)]
                wanted = plainly(net, flow)
                self.assertEqual((goes(net, flow), brought(net, flow)), wanted, (net, flow))
                seen[wanted[0]] += 1
        self.assertGreater(min(seen.values()), 50)


class Refused(FlowCase):
    def test_too_few_and_too_many_wares(self):
        row = [NONE, NONE, NONE]
        for many in (0, 1, 3, 4):
            self.is_none_and_as_it_was(SHARED, [list(row) for each in range(many)])
        self.is_none_and_as_it_was((2, [], [(0, 1, 1)]), [])
        self.is_none_and_as_it_was((2, [], [(0, 1, 1)]), [[], []])

    def test_too_few_and_too_many_ways(self):
        row = [NONE, NONE, NONE]
        for wrong in ([], row[:2], row + [NONE]):
            self.is_none_and_as_it_was(SHARED, [list(row), wrong])
            self.is_none_and_as_it_was(SHARED, [wrong, list(row)])
        self.is_none_and_as_it_was(SMALL_NET, [[]])
        self.is_none_and_as_it_was((2, [], [(0, 1, 1)]), [[NONE]])

    def test_wrong_fractions(self):
        below_nought = [(-1, 1), (-1, 2), (-10 ** 30, 1)]
        wrong_unders = [(0, 0), (1, 0), (1, -1), (0, -1), (-1, -2), (-1, 0)]
        common_divisors = [(2, 2), (2, 4), (6, 4), (20, 10), (10 ** 30, 2)]
        noughts = [(0, 2), (0, 20)]
        truths = [(True, 1), (False, 1), (1, True), (0, True), (True, True), (True, 2), (1, False)]
        forms = [[1, 2], [0, 1], (1,), (1, 2, 3), (), "12", {0: 1, 1: 2}, (1.0, 2), (1, 2.0), ("1", 2), (1, None)]
        for wrong in below_nought + wrong_unders + common_divisors + noughts + truths + forms:
            self.is_none_and_as_it_was(SMALL_NET, [[wrong]])
            self.is_none_and_as_it_was(SHARED, [[NONE, NONE, NONE], [NONE, NONE, wrong]])
            self.is_none_and_as_it_was(SHARED, [[wrong, NONE, NONE], [NONE, NONE, NONE]])

    def test_tuples_in_the_place_of_lists(self):
        self.is_none_and_as_it_was(SMALL_NET, ([HALF],))
        self.is_none_and_as_it_was(SMALL_NET, [(HALF,)])
        self.is_none_and_as_it_was(SHARED, [[NONE] * 3, (NONE,) * 3])
        self.is_none_and_as_it_was((2, [], [(0, 1, 1)]), [()])
        self.is_none_and_as_it_was((2, [], [(0, 1, 1)]), ([],))

    def test_things_that_are_no_flow_at_all(self):
        for path in ((), (0,), (0, 0), (0, 0, 0), (0, 0, 1)):
            for thing in NOTHINGS:
                fits = len(path) == 3 and type(thing) is int and thing >= 0
                if not fits and not hasattr(thing, "__next__"):
                    self.is_none(SMALL_NET, with_part(SMALL_FLOW, path, thing))

    def test_a_list_that_holds_itself(self):
        ring = []
        ring.append(ring)
        self.is_none(SMALL_NET, ring)
        self.is_none(SMALL_NET, [ring])

    def test_the_net_is_refused_ahead_of_the_flow(self):
        for net in (None, (2, [], []), (2, [(0, 1, 0)], [(0, 1, 1)]), (7, [(0, 1, 1)], [(0, 1, 1)])):
            for flow in (None, [], [[(2, 2)]], [[(-1, 1)]], SMALL_FLOW):
                before = deepcopy((net, flow))
                self.assertIs(refusal(goes, net, flow), BadNet)
                self.assertIs(refusal(brought, net, flow), BadNet)
                self.assertEqual((net, flow), before)

    def test_a_flow_of_another_net(self):
        self.is_none_and_as_it_was(LINE, deepcopy(SMALL_FLOW))
        self.is_none_and_as_it_was(SMALL_NET, [[ONE, ONE]])


if __name__ == "__main__":
    unittest.main()
