"""[31], [32], [33]: the fair shares, their flow and their papers."""

import unittest
from copy import deepcopy
from fractions import Fraction

from helper import (
    EDGE_NETS, NOTHINGS, SMALL_NET, are_plain_amounts, bends, drawn_nets, has_row, plain_paper, plain_worth, plainly,
    plainly_shows_fair, with_part,
)
from sharedways.fair import fair_shares, shows_fair
from sharedways.shares import greatest_share

NONE, ONE, TWO, HALF, THIRD = (0, 1), (1, 1), (2, 1), (1, 2), (1, 3)

# Two wares share a way; the second goes on over one with room for half of what is wanted of it.
STEPS = (3, [(0, 1, 4), (1, 2, 1)], [(0, 1, 2), (0, 2, 2)])
STEPS_TRIPLE = (
    [(3, 2), HALF],
    [[(3, 1), NONE], [ONE, ONE]],
    [([ONE, NONE], [ONE, ONE]), ([NONE, ONE], [NONE, ONE])],
)
# The second ware has no row of ways.
PARTED = (3, [(0, 1, 3)], [(0, 1, 2), (1, 2, 4)])
PARTED_TRIPLE = ([(3, 2), NONE], [[(3, 1)], [NONE]], [([ONE], [ONE, NONE]), ([NONE], [NONE, ONE])])
# All alike, with two ways that bar either.
ALIKE = (3, [(0, 1, 2), (1, 2, 2)], [(0, 2, 2), (0, 2, 2)])
ALIKE_TRIPLE = (
    [HALF, HALF],
    [[ONE, ONE], [ONE, ONE]],
    [([ONE, NONE], [ONE, ONE]), ([NONE, ONE], [ONE, ONE])],
)


class Told(unittest.TestCase):
    def shares_are(self, net, wanted):
        told = fair_shares(net)
        self.assertEqual(told[0], wanted, net)
        self.assertTrue(plainly_shows_fair(net, told), (net, told))

    def is_as_promised(self, net):
        """Each part of the promise by itself, so that a fault is told plainly."""
        told = fair_shares(net)
        self.assertEqual([type(told), len(told)], [tuple, 3])
        shares, flow, papers = told
        self.assertTrue(are_plain_amounts(shares, len(net[2])), told)
        self.assertEqual([type(flow), type(papers), len(papers)], [list, list, len(net[2])])
        fractions = [Fraction(*share) for share in shares]
        brought = [Fraction(*each) for each in plainly(net, flow)[1]]
        self.assertEqual(plainly(net, flow)[0], True, (net, told))
        self.assertEqual(brought, [share * ware[2] for share, ware in zip(fractions, net[2])], (net, told))
        for number, paper in enumerate(papers):
            self.paper_bars(net, fractions, brought, paper, number)
        self.assertTrue(plainly_shows_fair(net, told), (net, told))
        self.assertIs(shows_fair(net, told), True)
        self.assertEqual(min(fractions), Fraction(*greatest_share(net)[0]), (net, told))
        self.assertEqual([share != NONE for share in shares], [has_row(net, ware) for ware in net[2]], (net, told))

    def paper_bars(self, net, shares, brought, paper, number):
        read = plain_paper(net, paper)
        self.assertIsNotNone(read, (net, paper))
        self.assertGreater(read[1][number], 0, (net, paper))
        for share, height in zip(shares, read[1]):
            self.assertFalse(share > shares[number] and height > 0, (net, paper))
        worth = sum(height * amount for height, amount in zip(read[1], brought))
        self.assertEqual(plain_worth(net, read[0]), worth, (net, paper))

    def test_nets_at_the_edges(self):
        for net in EDGE_NETS + [STEPS, PARTED, ALIKE]:
            self.is_as_promised(net)

    def test_drawn_nets(self):
        for net in drawn_nets(31, 400):
            self.is_as_promised(net)

    def test_the_drawn_nets_are_of_all_sorts(self):
        seen = {}
        for net in drawn_nets(31, 400):
            shares = fair_shares(net)[0]
            sort = (len(shares), len(set(shares)), NONE in shares)
            seen[sort] = seen.get(sort, 0) + 1
        for sort in ((1, 1, False), (2, 2, False), (3, 1, False), (3, 2, False), (3, 3, False), (3, 3, True)):
            self.assertGreater(seen[sort], 3, sort)

    def test_one_ware(self):
        self.shares_are((2, [(0, 1, 3)], [(0, 1, 2)]), [(3, 2)])
        self.shares_are((2, [(0, 1, 1)], [(0, 1, 20)]), [(1, 20)])
        self.shares_are((2, [(0, 1, 20)], [(0, 1, 1)]), [(20, 1)])
        self.shares_are((2, [], [(0, 1, 1)]), [NONE])

    def test_shares_that_are_all_alike(self):
        self.shares_are(ALIKE, [HALF, HALF])
        self.shares_are((2, [(0, 1, 20)], [(0, 1, 1), (0, 1, 1), (0, 1, 1)]), [(20, 3)] * 3)
        self.shares_are((2, [(0, 1, 7)], [(0, 1, 1), (0, 1, 2), (0, 1, 4)]), [ONE] * 3)
        self.shares_are((3, [(0, 1, 1), (1, 2, 1), (2, 0, 1)], [(0, 2, 1), (1, 0, 1), (2, 1, 1)]), [HALF] * 3)

    def test_shares_that_are_all_unlike(self):
        self.shares_are((6, [(0, 1, 1), (2, 3, 2), (4, 5, 3)], [(0, 1, 1), (2, 3, 1), (4, 5, 1)]), [ONE, TWO, (3, 1)])
        self.shares_are((6, [(0, 1, 1), (2, 3, 2), (4, 5, 3)], [(4, 5, 2), (0, 1, 2), (2, 3, 2)]), [(3, 2), HALF, ONE])
        net = (4, [(0, 1, 9), (1, 2, 4), (2, 3, 1)], [(0, 1, 1), (0, 2, 1), (0, 3, 1)])
        self.shares_are(net, [(5, 1), (3, 1), ONE])

    def test_what_one_leaves_the_others_share(self):
        self.shares_are(STEPS, [(3, 2), HALF])
        net = (3, [(0, 1, 20), (1, 2, 2)], [(0, 1, 1), (0, 2, 1), (0, 1, 1)])
        self.shares_are(net, [(9, 1), TWO, (9, 1)])

    def test_a_ware_that_can_turn_aside_does(self):
        # The first ware goes round by the second one's way, as far as their shares are alike.
        net = (3, [(0, 1, 2), (0, 2, 3), (2, 1, 3)], [(0, 1, 2), (0, 2, 1)])
        self.shares_are(net, [(5, 3), (5, 3)])
        net = (3, [(0, 1, 2), (0, 2, 5), (2, 1, 1)], [(0, 1, 2), (0, 2, 1)])
        self.shares_are(net, [(3, 2), (4, 1)])

    def test_greater_shares_may_not_cost_lesser_ones(self):
        # The long ware crosses both short ones: more would go without it, but it has no more than they.
        net = (3, [(0, 1, 2), (1, 2, 6)], [(0, 2, 1), (0, 1, 1), (1, 2, 1)])
        self.shares_are(net, [ONE, ONE, (5, 1)])

    def test_wares_without_a_row_beside_wares_with_one(self):
        self.shares_are(PARTED, [(3, 2), NONE])
        self.shares_are((3, [(0, 1, 3)], [(1, 0, 1), (0, 1, 2), (1, 2, 20)]), [NONE, (3, 2), NONE])
        self.shares_are((3, [(0, 1, 3)], [(0, 1, 2), (1, 0, 1), (0, 1, 2)]), [(3, 4), NONE, (3, 4)])
        self.shares_are((6, [], [(0, 1, 1), (0, 1, 1), (5, 4, 20)]), [NONE, NONE, NONE])


class Shown(unittest.TestCase):
    def shows(self, net, triple, wanted):
        before = deepcopy((net, triple))
        self.assertIs(shows_fair(net, triple), wanted, (net, triple))
        self.assertEqual((net, triple), before)

    def bent(self, path, part):
        self.shows(STEPS, with_part(STEPS_TRIPLE, path, part), False)

    def test_other_triples_that_are_so(self):
        self.shows(STEPS, STEPS_TRIPLE, True)
        self.shows(PARTED, PARTED_TRIPLE, True)
        self.shows(ALIKE, ALIKE_TRIPLE, True)
        self.shows(ALIKE, with_part(ALIKE_TRIPLE, (2, 0), ([HALF, HALF], [ONE, ONE])), True)
        self.shows(ALIKE, with_part(ALIKE_TRIPLE, (2, 1), ([THIRD, NONE], [THIRD, THIRD])), True)

    def test_heights_may_come_to_anything(self):
        for number in ((1, 1000), THIRD, TWO, (10 ** 30, 1)):
            self.shows(STEPS, with_part(STEPS_TRIPLE, (2, 1), ([NONE, number], [NONE, number])), True)
            self.shows(STEPS, with_part(STEPS_TRIPLE, (2, 0), ([number, NONE], [number, number])), True)

    def test_a_lesser_shares_paper_may_count_in_a_greater_ones(self):
        self.shows(STEPS, with_part(STEPS_TRIPLE, (2, 0), ([ONE, TWO], [ONE, (3, 1)])), True)
        self.shows(STEPS, with_part(STEPS_TRIPLE, (2, 0), ([ONE, TWO], [ONE, (4, 1)])), False)

    def test_of_a_ware_without_a_row_any_height(self):
        for height in (NONE, (1, 7), (100, 1)):
            self.shows(PARTED, with_part(PARTED_TRIPLE, (2, 0, 1), [ONE, height]), True)
            self.shows(PARTED, with_part(PARTED_TRIPLE, (2, 1, 1), [NONE, height]), height != NONE)

    def test_other_shares(self):
        for shares in ([ONE, ONE], [HALF, HALF], [(2, 1), NONE], [NONE, NONE], [HALF, (3, 2)], [(3, 2), (-1, 2)]):
            self.bent((0,), shares)

    def test_shares_that_go_but_are_not_fair(self):
        papers = STEPS_TRIPLE[2]
        self.shows(STEPS, ([TWO, NONE], [[(4, 1), NONE], [NONE, NONE]], papers), False)
        self.shows(STEPS, ([HALF, HALF], [[ONE, NONE], [ONE, ONE]], papers), False)
        self.shows(STEPS, ([NONE, NONE], [[NONE, NONE], [NONE, NONE]], papers), False)
        self.shows(STEPS, ([TWO, NONE], [[(4, 1), NONE], [NONE, NONE]], [papers[0], papers[0]]), False)

    def test_a_greater_share_is_not_barred_by_a_height_of_its_own_alone(self):
        # All the room for the second ware: prices come to what is brought, but the first has a lesser share.
        net = (2, [(0, 1, 2)], [(0, 1, 1), (0, 1, 1)])
        paper = ([ONE], [ONE, ONE])
        self.shows(net, ([ONE, ONE], [[ONE], [ONE]], [paper, paper]), True)
        self.shows(net, ([HALF, (3, 2)], [[HALF], [(3, 2)]], [paper, paper]), False)
        self.shows(net, ([NONE, TWO], [[NONE], [TWO]], [paper, paper]), False)
        self.shows(net, ([NONE, TWO], [[NONE], [TWO]], [([NONE], [NONE, NONE]), paper]), False)

    def test_a_height_above_nought_of_a_ware_with_a_greater_share(self):
        # The first way's price and both heights would come out even, but the first ware has the greater share.
        self.bent((2, 1), ([ONE, NONE], [ONE, ONE]))
        self.bent((2, 1), ([(1, 100), ONE], [(1, 100), (101, 100)]))

    def test_the_wares_own_height_is_above_nought(self):
        self.bent((2, 1), ([NONE, NONE], [NONE, NONE]))
        self.bent((2, 0), ([NONE, NONE], [NONE, NONE]))
        self.bent((2, 0), ([NONE, ONE], [NONE, ONE]))
        self.shows(PARTED, with_part(PARTED_TRIPLE, (2, 1), ([NONE], [NONE, NONE])), False)

    def test_the_papers_of_two_wares_in_each_others_place(self):
        self.bent((2,), STEPS_TRIPLE[2][::-1])

    def test_papers_that_come_to_something_else(self):
        self.bent((2, 0), ([TWO, NONE], [ONE, ONE]))
        self.bent((2, 0), ([ONE, (1, 1000)], [ONE, ONE]))
        self.bent((2, 0), ([ONE, NONE], [ONE, HALF]))
        self.bent((2, 1), ([NONE, ONE], [NONE, HALF]))

    def test_a_height_that_is_more_than_a_row_costs(self):
        # It comes to the prices times rooms, but no row of the second ware costs so much.
        self.bent((2, 0), ([ONE, NONE], [THIRD, (3, 1)]))
        self.bent((2, 1), ([NONE, NONE], [NONE, ONE]))

    def test_a_flow_that_does_not_go_or_brings_something_else(self):
        for flow in (
            [[(3, 1), NONE], [ONE, HALF]], [[(3, 1), NONE], [NONE, ONE]], [[TWO, NONE], [ONE, ONE]],
            [[(4, 1), NONE], [ONE, ONE]], [[(3, 1), NONE], [NONE, NONE]], [[ONE, ONE], [(3, 1), NONE]],
            [[(3, 1), NONE]], [[(3, 1), NONE], [ONE, ONE], [NONE, NONE]], [], [[(3, 1)], [ONE, ONE]],
        ):
            self.bent((1,), flow)

    def test_other_lengths(self):
        for path in ((0,), (1,), (2,), (2, 0, 0), (2, 0, 1), (2, 1, 0), (2, 1, 1)):
            row = STEPS_TRIPLE
            for number in path:
                row = row[number]
            for wrong in (row[:1], row + row[-1:], row[:1] + row, []):
                self.bent(path, wrong)

    def test_below_nought(self):
        self.bent((2, 0), ([ONE, (-1, 1)], [ONE, NONE]))
        self.bent((2, 1), ([NONE, ONE], [(-1, 1), ONE]))
        self.shows(PARTED, with_part(PARTED_TRIPLE, (2, 0, 1, 1), (-1, 1)), False)

    def test_fractions_that_are_none(self):
        for wrong in ((2, 2), (1.0, 1), [1, 1], (True, 1), (1, True), True, 1, 1.0, "1", None, (-1, -1), (1, 0), (1,)):
            for path in ((1, 1, 0), (2, 0, 0, 0), (2, 0, 1, 0), (2, 1, 1, 1)):
                self.bent(path, wrong)
        for wrong in ((2, 4), (1.0, 2), [1, 2], 0.5, Fraction(1, 2), (True, 2), None):
            self.bent((0, 1), wrong)

    def test_lists_and_tuples_in_each_others_place(self):
        shares, flow, papers = STEPS_TRIPLE
        for wrong in ([shares, flow, papers], (tuple(shares), flow, papers), (shares, tuple(flow), papers),
                      (shares, flow, tuple(papers)), (shares, flow, [list(papers[0]), papers[1]]),
                      (shares, [tuple(flow[0]), flow[1]], papers)):
            self.shows(STEPS, wrong, False)
        self.bent((2, 0, 0), (ONE, NONE))
        self.bent((2, 0, 1), (ONE, ONE))

    def test_more_or_fewer_parts(self):
        for wrong in (STEPS_TRIPLE[:2], STEPS_TRIPLE + ([],), STEPS_TRIPLE[::-1], ()):
            self.shows(STEPS, wrong, False)

    def test_a_share_in_the_place_of_shares(self):
        self.shows(SMALL_NET, greatest_share(SMALL_NET), False)
        self.bent((0,), HALF)

    def test_things_of_other_kinds(self):
        told = fair_shares(SMALL_NET)
        for path in ((), (0,), (0, 0), (1,), (1, 0), (1, 0, 0), (2,), (2, 0), (2, 0, 0), (2, 0, 1), (2, 0, 1, 0)):
            for thing in NOTHINGS:
                if not hasattr(thing, "__next__"):
                    self.assertIs(shows_fair(SMALL_NET, with_part(told, path, thing)), False, (path, thing))

    def test_a_list_that_holds_itself(self):
        ring = []
        ring.append(ring)
        for triple in (ring, (ring, ring, ring), with_part(STEPS_TRIPLE, (1,), ring), (STEPS_TRIPLE[0], ring, ring)):
            self.assertIs(shows_fair(STEPS, triple), False)

    def test_each_bent_triple(self):
        for net in EDGE_NETS[:8] + [STEPS, PARTED, ALIKE] + EDGE_NETS[-4:-1] + drawn_nets(33, 4):
            told = fair_shares(net)
            for bent in bends(told):
                before = repr(bent)
                wanted = plainly_shows_fair(net, bent)
                self.assertIs(shows_fair(net, bent), wanted, (net, bent))
                self.assertEqual(repr(bent), before)
                self.assertFalse(wanted and bent[0] != told[0], (net, bent))

    def test_a_triple_of_another_net(self):
        nets = drawn_nets(34, 40) + EDGE_NETS
        for net, other in zip(nets, nets[1:]):
            triple = fair_shares(other)
            self.shows(net, triple, plainly_shows_fair(net, triple))


if __name__ == "__main__":
    unittest.main()
