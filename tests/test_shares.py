"""[21], [22], [23]: the greatest share, its flow and its paper."""

import unittest
from copy import deepcopy
from fractions import Fraction

from helper import (
    EDGE_NETS, NOTHINGS, SMALL_NET, all_rows, bends, drawn_nets, has_row, is_plain_fraction, pair_of, plain_paper,
    plain_worth, plainly, plainly_brings, plainly_shows_share, with_part,
)
from sharedways.shares import flow_row, greatest_share, raised, shows_share

NONE, ONE, HALF, THIRD = (0, 1), (1, 1), (1, 2), (1, 3)
LINE = (3, [(0, 1, 2), (1, 2, 2)], [(0, 2, 4)])
LINE_TRIPLE = (HALF, [[(2, 1), (2, 1)]], ([(1, 4), NONE], [(1, 4)]))
TWO_ROWS = (4, [(0, 1, 2), (0, 2, 2), (1, 3, 2), (2, 3, 2)], [(0, 3, 2), (0, 3, 2)])
RING = (3, [(0, 1, 1), (1, 2, 1), (2, 0, 1)], [(0, 2, 1), (1, 0, 1), (2, 1, 1)])
PARTED = (3, [(0, 1, 3)], [(0, 1, 2), (1, 2, 4)])
# Here more of a ware could go beside the greatest share, and the reckoning comes upon it: the flow may not tell it.
OVER_FULL = [
    (3, [(0, 1, 1), (2, 0, 2), (2, 1, 3)], [(0, 1, 1), (2, 0, 3), (2, 1, 3)]),
    (3, [(0, 1, 1), (0, 2, 1), (1, 0, 1), (1, 2, 3), (2, 0, 1), (2, 1, 1)], [(1, 0, 3), (2, 1, 1), (0, 1, 1)]),
    (3, [(0, 1, 5), (0, 2, 14), (1, 2, 7), (2, 0, 8), (2, 1, 17)], [(0, 2, 5), (2, 0, 9), (2, 1, 6)]),
    (3, [(0, 1, 3), (0, 2, 3), (1, 0, 1), (1, 2, 3), (2, 0, 3), (2, 1, 3)], [(0, 1, 1), (1, 2, 2), (0, 2, 2)]),
    (4, [(0, 2, 2), (1, 3, 2), (2, 1, 1), (3, 0, 1), (3, 1, 3)], [(2, 0, 1), (0, 2, 3), (3, 1, 3)]),
]


class Told(unittest.TestCase):
    def share_is(self, net, wanted):
        told = greatest_share(net)
        self.assertEqual(told[0], wanted, net)
        self.assertTrue(plainly_shows_share(net, told), (net, told))

    def is_as_promised(self, net):
        """Each part of the promise by itself, so that a fault is told plainly."""
        told = greatest_share(net)
        self.assertEqual([type(told), len(told)], [tuple, 3])
        share, flow, paper = told
        self.assertTrue(is_plain_fraction(share), told)
        self.assertEqual([type(flow), type(paper), len(paper)], [list, tuple, 2])
        self.assertEqual(plainly(net, flow)[0], True, (net, told))
        brought = [Fraction(*each) for each in plainly(net, flow)[1]]
        self.assertEqual(brought, [Fraction(*share) * ware[2] for ware in net[2]], (net, told))
        read = plain_paper(net, paper)
        self.assertIsNotNone(read, (net, told))
        self.assertEqual(sum(height * ware[2] for height, ware in zip(read[1], net[2])), 1, (net, told))
        self.assertEqual(plain_worth(net, read[0]), Fraction(*share), (net, told))
        self.assertTrue(plainly_shows_share(net, told), (net, told))
        self.assertIs(shows_share(net, told), True)
        self.assertEqual(share == NONE, not all(has_row(net, ware) for ware in net[2]), (net, told))

    def test_nets_at_the_edges(self):
        for net in EDGE_NETS + [LINE, TWO_ROWS, RING, PARTED] + OVER_FULL:
            self.is_as_promised(net)

    def test_drawn_nets(self):
        for net in drawn_nets(21, 400):
            self.is_as_promised(net)

    def test_the_drawn_nets_are_of_all_sorts(self):
        nets = drawn_nets(21, 400)
        blocked = [net for net in nets if not all(has_row(net, ware) for ware in net[2])]
        self.assertGreater(len(blocked), 40)
        self.assertGreater(len(nets) - len(blocked), 100)
        self.assertEqual({net[0] for net in nets}, {2, 3, 4, 5, 6})
        self.assertEqual({len(net[2]) for net in nets}, {1, 2, 3})
        self.assertLessEqual({0, 10}, {len(net[1]) for net in nets})
        self.assertGreater(max(len(list(all_rows(net, ware))) for net in nets for ware in net[2]), 4)

    def test_one_way(self):
        for room in (1, 2, 19, 20):
            for wanted in (1, 2, 19, 20):
                fraction = Fraction(room, wanted)
                self.share_is((2, [(0, 1, room)], [(0, 1, wanted)]), (fraction.numerator, fraction.denominator))

    def test_like_wares_share_a_way(self):
        self.share_is((2, [(0, 1, 20)], [(0, 1, 1), (0, 1, 1), (0, 1, 1)]), (20, 3))
        self.share_is((2, [(0, 1, 1)], [(0, 1, 20), (0, 1, 20), (0, 1, 20)]), (1, 60))
        self.share_is((2, [(0, 1, 3)], [(0, 1, 1), (0, 1, 5)]), HALF)

    def test_wares_of_opposite_turns_have_a_way_each(self):
        self.share_is((2, [(0, 1, 3), (1, 0, 4)], [(0, 1, 1), (1, 0, 1)]), (3, 1))
        self.share_is((2, [(0, 1, 3)], [(0, 1, 1), (1, 0, 1)]), NONE)

    def test_the_narrowest_way_of_a_row_counts(self):
        self.share_is((4, [(0, 1, 9), (1, 2, 4), (2, 3, 9)], [(0, 3, 6)]), (2, 3))

    def test_a_ware_goes_by_several_rows(self):
        self.share_is(TWO_ROWS, ONE)
        self.share_is((4, [(0, 1, 3), (0, 2, 2), (1, 2, 1), (1, 3, 1), (2, 3, 4)], [(0, 3, 1)]), (4, 1))

    def test_a_round_of_three_wares_goes_by_halves(self):
        self.share_is(RING, HALF)

    def test_one_ware_holds_up_all(self):
        net = (4, [(0, 1, 20), (2, 3, 1)], [(0, 1, 1), (2, 3, 20)])
        self.share_is(net, (1, 20))

    def test_without_a_row_nothing_goes(self):
        self.share_is((2, [], [(0, 1, 1)]), NONE)
        self.share_is((6, [], [(0, 1, 20), (0, 1, 20), (5, 1, 1)]), NONE)
        self.share_is((2, [(1, 0, 20)], [(0, 1, 1)]), NONE)
        for wares in ([(0, 1, 2), (1, 2, 4)], [(1, 2, 4), (0, 1, 2)], [(2, 1, 3), (1, 2, 4), (0, 1, 2)]):
            self.share_is((3, [(0, 1, 3)], wares), NONE)


class Raised(unittest.TestCase):
    def test_what_is_held_is_brought_and_the_rest_rises(self):
        held = (3, [(0, 1, 4), (1, 2, 9)], [(0, 2, 2), (0, 1, 2), (1, 2, 1)])
        share, flow, paper = raised(held, [HALF, None, None])
        self.assertEqual((share, flow), ((3, 2), [[ONE, ONE], [(3, 1), NONE], [NONE, (3, 2)]]))
        self.assertEqual(raised(held, [HALF, ONE, None])[0], (8, 1))
        self.assertEqual(raised(held, [None, ONE, NONE])[0], ONE)

    def test_drawn_nets(self):
        for net in OVER_FULL + drawn_nets(22, 150):
            part = Fraction(*greatest_share(net)[0]) / 3
            for number in range(1, len(net[2])):
                held = [pair_of(part)] * number + [None] * (len(net[2]) - number)
                share, flow, paper = raised(net, held)
                self.assertTrue(plainly_brings(net, flow, [share if kept is None else kept for kept in held]))

    def test_no_more_is_told_than_is_wanted(self):
        lanes = [(0, [0]), (1, [1]), (0, [1, 2]), (0, [2])]
        amounts = [ONE, ONE, (2, 1), ONE]
        self.assertEqual(flow_row(3, lanes, amounts, 0, (4, 1)), [ONE, (2, 1), (3, 1)])
        self.assertEqual(flow_row(3, lanes, amounts, 0, (7, 2)), [ONE, (2, 1), (5, 2)])
        self.assertEqual(flow_row(3, lanes, amounts, 0, (3, 2)), [ONE, HALF, HALF])
        self.assertEqual(flow_row(3, lanes, amounts, 0, HALF), [HALF, NONE, NONE])
        self.assertEqual(flow_row(3, lanes, amounts, 1, THIRD), [NONE, THIRD, NONE])
        self.assertEqual(flow_row(3, lanes, amounts, 2, NONE), [NONE, NONE, NONE])


class Shown(unittest.TestCase):
    def shows(self, net, triple, wanted):
        before = deepcopy((net, triple))
        self.assertIs(shows_share(net, triple), wanted, (net, triple))
        self.assertEqual((net, triple), before)

    def test_other_triples_that_are_so(self):
        self.shows(LINE, LINE_TRIPLE, True)
        self.shows(LINE, with_part(LINE_TRIPLE, (2, 0), [NONE, (1, 4)]), True)
        self.shows(LINE, with_part(LINE_TRIPLE, (2, 0), [(1, 8), (1, 8)]), True)
        self.shows(LINE, with_part(LINE_TRIPLE, (2, 0), [(1, 12), (1, 6)]), True)

    def test_other_flows_that_are_so(self):
        paper = ([(1, 4), (1, 4), NONE, NONE], [(1, 4), (1, 4)])
        for one, other in (((2, 1), NONE), (ONE, ONE), (NONE, (2, 1)), ((5, 3), THIRD)):
            self.shows(TWO_ROWS, (ONE, [[one, other, one, other], [other, one, other, one]], paper), True)
        self.shows(TWO_ROWS, (ONE, [[ONE] * 4, [ONE] * 4], ([NONE, NONE, (1, 4), (1, 4)], [(1, 4), (1, 4)])), True)
        self.shows(TWO_ROWS, (ONE, [[ONE] * 4, [ONE] * 4], ([(1, 4), NONE, NONE, (1, 4)], [(1, 4), (1, 4)])), True)
        self.shows(TWO_ROWS, (ONE, [[ONE] * 4, [ONE] * 4], ([(1, 4), NONE, (1, 4), NONE], [(1, 4), (1, 4)])), False)

    def test_a_flow_with_a_round_in_it_may_be_so(self):
        net = (3, [(0, 1, 1), (1, 2, 5), (2, 1, 5)], [(0, 1, 1)])
        paper = ([ONE, NONE, NONE], [ONE])
        self.shows(net, (ONE, [[ONE, NONE, NONE]], paper), True)
        self.shows(net, (ONE, [[ONE, THIRD, THIRD]], paper), True)
        self.shows(net, (ONE, [[ONE, (5, 1), (5, 1)]], paper), True)
        self.shows(net, (ONE, [[ONE, (6, 1), (6, 1)]], paper), False)

    def test_of_a_ware_without_a_row_any_height(self):
        nothing = [[NONE], [NONE]]
        self.shows(PARTED, (NONE, nothing, ([NONE], [NONE, (1, 4)])), True)
        self.shows(PARTED, (NONE, nothing, ([NONE], [(1, 2), NONE])), False)
        self.shows(PARTED, (NONE, nothing, ([NONE], [(1, 4), (1, 8)])), False)
        self.shows(PARTED, (NONE, nothing, ([NONE], [NONE, (1, 2)])), False)
        self.shows(PARTED, (NONE, nothing, ([(1, 2)], [NONE, (1, 4)])), False)

    def test_two_wares_without_a_row(self):
        net = (2, [], [(0, 1, 2), (1, 0, 3)])
        for heights in ([(1, 2), NONE], [NONE, THIRD], [(1, 4), (1, 6)], [(1, 5), (1, 5)]):
            self.shows(net, (NONE, [[], []], ([], heights)), True)
        self.shows(net, (NONE, [[], []], ([], [HALF, THIRD])), False)

    def test_another_share(self):
        for share in (NONE, THIRD, (2, 3), ONE, (-1, 2), (499, 1000), (501, 1000)):
            self.shows(LINE, with_part(LINE_TRIPLE, (0,), share), False)

    def test_a_lesser_share_that_goes(self):
        flow = [[ONE, ONE]]
        self.shows(LINE, ((1, 4), flow, ([(1, 4), NONE], [(1, 4)])), False)
        self.shows(LINE, ((1, 4), flow, ([(1, 8), NONE], [(1, 8)])), False)
        self.shows(LINE, ((1, 4), flow, ([(1, 8), NONE], [(1, 4)])), False)
        self.shows(LINE, (NONE, [[NONE, NONE]], ([NONE, NONE], [NONE])), False)
        self.shows(LINE, (NONE, [[NONE, NONE]], ([NONE, NONE], [(1, 4)])), False)

    def test_a_greater_share_with_a_flow_that_has_no_room(self):
        paper = ([(1, 2), NONE], [(1, 4)])
        self.shows(LINE, (ONE, [[(4, 1), (4, 1)]], paper), False)

    def test_a_flow_that_does_not_go(self):
        for flow in ([[(2, 1), ONE]], [[ONE, (2, 1)]], [[NONE, (2, 1)]], [[(2, 1), NONE]]):
            self.shows(LINE, with_part(LINE_TRIPLE, (1,), flow), False)

    def test_a_flow_that_brings_more_or_less(self):
        for amount in (NONE, ONE, (199, 100), (201, 100), (3, 1)):
            self.shows(LINE, with_part(LINE_TRIPLE, (1,), [[amount, amount]]), False)
        told = greatest_share(TWO_ROWS)
        more = [[(2, 1), NONE, (2, 1), NONE], [NONE, ONE, NONE, ONE]]
        self.shows(TWO_ROWS, (ONE, more, told[2]), False)

    def test_one_ware_may_not_bring_more_than_its_share(self):
        net = (4, [(0, 1, 20), (2, 3, 1)], [(0, 1, 1), (2, 3, 20)])
        paper = ([NONE, (1, 20)], [NONE, (1, 20)])
        self.shows(net, ((1, 20), [[(1, 20), NONE], [NONE, ONE]], paper), True)
        self.shows(net, ((1, 20), [[(1, 10), NONE], [NONE, ONE]], paper), False)
        self.shows(net, ((1, 20), [[NONE, NONE], [NONE, ONE]], paper), False)

    def test_a_flow_of_other_lengths(self):
        two = [(2, 1), (2, 1)]
        for flow in ([], [two, two], [two[:1]], [two + two[:1]], [[]], [two, []]):
            self.shows(LINE, with_part(LINE_TRIPLE, (1,), flow), False)

    def test_too_few_or_too_many_prices_or_heights(self):
        for prices in ([], [(1, 4)], [(1, 4), NONE, NONE], [NONE, (1, 4), NONE]):
            self.shows(LINE, with_part(LINE_TRIPLE, (2, 0), prices), False)
        for heights in ([], [(1, 4), NONE], [(1, 8), (1, 8)]):
            self.shows(LINE, with_part(LINE_TRIPLE, (2, 1), heights), False)

    def test_prices_and_heights_below_nought(self):
        self.shows(LINE, with_part(LINE_TRIPLE, (2, 0), [(1, 2), (-1, 4)]), False)
        self.shows(LINE, with_part(LINE_TRIPLE, (2, 0), [(-1, 4), (1, 2)]), False)
        self.shows(PARTED, (NONE, [[NONE], [NONE]], ([NONE], [(-1, 2), HALF])), False)

    def test_fractions_that_are_none(self):
        for wrong in ((2, 8), (1.0, 4), (1, 4.0), [1, 4], (1, 4, 1), (1,), 1, 0.25, "1/4", None, (-1, -4), (1, 0)):
            self.shows(LINE, with_part(LINE_TRIPLE, (2, 0, 0), wrong), False)
            self.shows(LINE, with_part(LINE_TRIPLE, (2, 1, 0), wrong), False)
        for wrong in ((2, 4), (1.0, 2), [1, 2], 0.5, Fraction(1, 2), "1/2", None, (1, 2, 3), (-1, -2)):
            self.shows(LINE, with_part(LINE_TRIPLE, (0,), wrong), False)

    def test_heights_that_come_to_something_else(self):
        for height in (NONE, (1, 5), (1, 8), (1, 3), ONE):
            self.shows(LINE, with_part(LINE_TRIPLE, (2, 1), [height]), False)

    def test_prices_that_come_to_something_else(self):
        for prices in ([(1, 4), (1, 4)], [(1, 3), NONE], [(1, 4), (1, 1000)]):
            self.shows(LINE, with_part(LINE_TRIPLE, (2, 0), prices), False)

    def test_a_height_that_is_more_than_a_row_costs(self):
        net = (3, [(0, 1, 4), (0, 2, 4), (2, 1, 1)], [(0, 1, 5)])
        flow = [[(4, 1), ONE, ONE]]
        self.shows(net, (ONE, flow, ([(1, 5), NONE, (1, 5)], [(1, 5)])), True)
        self.shows(net, (ONE, flow, ([(1, 5), (1, 20), NONE], [(1, 5)])), False)
        self.shows(net, (ONE, flow, ([(1, 4), NONE, NONE], [(1, 5)])), False)
        self.shows(net, (ONE, flow, ([NONE, (1, 5), (1, 5)], [(1, 5)])), False)

    def test_truths_in_the_place_of_whole_numbers(self):
        net = (2, [(0, 1, 1)], [(0, 1, 1)])
        self.shows(net, (ONE, [[ONE]], ([ONE], [ONE])), True)
        for wrong in ((True, 1), (1, True), (True, True), True):
            for path in ((0,), (1, 0, 0), (2, 0, 0), (2, 1, 0)):
                self.shows(net, with_part((ONE, [[ONE]], ([ONE], [ONE])), path, wrong), False)
        for wrong in ((False, 1), (0, True), False):
            self.shows(LINE, with_part(LINE_TRIPLE, (2, 0, 1), wrong), False)

    def test_lists_and_tuples_in_each_others_place(self):
        share, flow, paper = LINE_TRIPLE
        for wrong in (
            [share, flow, paper], (list(share), flow, paper), (share, tuple(flow), paper), (share, flow, list(paper)),
            (share, [tuple(flow[0])], paper), (share, flow, (tuple(paper[0]), paper[1])),
            (share, flow, (paper[0], tuple(paper[1]))),
        ):
            self.shows(LINE, wrong, False)

    def test_more_or_fewer_parts(self):
        share, flow, paper = LINE_TRIPLE
        for wrong in ((share, flow), (share, flow, paper, paper), (flow, share, paper), (share, flow) + paper, ()):
            self.shows(LINE, wrong, False)
        for wrong in ((paper[0],), paper + ([],), paper[::-1], ()):
            self.shows(LINE, (share, flow, wrong), False)

    def test_things_of_other_kinds(self):
        told = greatest_share(SMALL_NET)
        for path in ((), (0,), (1,), (1, 0), (1, 0, 0), (2,), (2, 0), (2, 1), (2, 0, 0), (2, 1, 0)):
            for thing in NOTHINGS:
                if not hasattr(thing, "__next__"):
                    self.assertIs(shows_share(SMALL_NET, with_part(told, path, thing)), False, (path, thing))

    def test_a_list_that_holds_itself(self):
        ring = []
        ring.append(ring)
        for triple in (ring, (ONE, ring, ([], [])), (ONE, [ring], ring), (ONE, SMALL_NET, (ring, ring))):
            self.assertIs(shows_share(SMALL_NET, triple), False)

    def test_each_bent_triple(self):
        for net in EDGE_NETS[:8] + [LINE, TWO_ROWS, PARTED] + EDGE_NETS[-4:] + drawn_nets(23, 6):
            told = greatest_share(net)
            for bent in bends(told):
                before = repr(bent)
                wanted = plainly_shows_share(net, bent)
                self.assertIs(shows_share(net, bent), wanted, (net, bent))
                self.assertEqual(repr(bent), before)
                self.assertFalse(wanted and bent[0] != told[0], (net, bent))

    def test_a_triple_of_another_net(self):
        nets = drawn_nets(24, 40) + EDGE_NETS
        for net, other in zip(nets, nets[1:]):
            triple = greatest_share(other)
            self.shows(net, triple, plainly_shows_share(net, triple))


if __name__ == "__main__":
    unittest.main()
