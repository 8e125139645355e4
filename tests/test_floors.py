"""[41], [42], [43]: floors, doubles that go and cuts that bar."""

import unittest
from copy import deepcopy
from fractions import Fraction
from itertools import combinations, product
from random import Random

from helper import NOTHINGS, SMALL_FLOOR, SMALL_WARE, bends, is_plain_fraction, refusal, with_part
from sharedways.errors import BadFloor
from sharedways.floors import both_go, cut_bars, double_goes

NONE, ONE, TWO, HALF = (0, 1), (1, 1), (2, 1), (1, 2)
PAIRS = list(combinations(range(8), 2))

# A square of lines with room for 1: the wares go from corner to corner across.
SQUARE = (4, [(0, 1, 1), (0, 3, 1), (1, 2, 1), (2, 3, 1)])
ACROSS, OTHER_ACROSS = (0, 2, 1), (1, 3, 1)
SQUARE_DOUBLE = ([HALF, HALF, HALF, (-1, 2)], [(-1, 2), HALF, HALF, HALF])
PATH = (3, [(0, 1, 3), (1, 2, 2)])


def floor_of(places=2, lines=()):
    return (places, list(lines))


def plain_cut_bars(floor, one, other, cut):
    room = sum(line[2] for line in floor[1] if (line[0] in cut) != (line[1] in cut))
    wanted = sum(ware[2] for ware in (one, other) if (ware[0] in cut) != (ware[1] in cut))
    return room < wanted


def all_cuts(floor):
    return [list(cut) for many in range(floor[0] + 1) for cut in combinations(range(floor[0]), many)]


def plain_double_goes(floor, one, other, double):
    if type(double) is not tuple or len(double) != 2:
        return False
    if not all(type(row) is list and len(row) == len(floor[1]) and all(map(is_plain_fraction, row)) for row in double):
        return False
    for ware, row in zip((one, other), double):
        gains = [Fraction(0)] * floor[0]
        for line, amount in zip(floor[1], row):
            gains[line[0]] -= Fraction(*amount)
            gains[line[1]] += Fraction(*amount)
        gains[ware[0]] += ware[2]
        gains[ware[1]] -= ware[2]
        if any(gains):
            return False
    loads = [abs(Fraction(*amount)) + abs(Fraction(*back)) for amount, back in zip(*double)]
    return all(load <= line[2] for load, line in zip(loads, floor[1]))


def drawn_floors(seed, many):
    draw = Random(seed)
    for each in range(many):
        places = draw.randint(2, 8)
        pairs = [pair for pair in PAIRS if max(pair) < places]
        lines = sorted(draw.sample(pairs, min(len(pairs), draw.choice([16, 12, draw.randint(0, 16)]))))
        room = draw.choice([1, 3, 20])
        most = draw.choice([0, 2, 3, 10, 40, 200])
        wares = [tuple(draw.sample(range(places), 2)) + (draw.randint(most // 2, most),) for ware in range(2)]
        if draw.randint(0, 5) == 0:
            wares[1] = draw.choice([wares[0][:2], wares[0][1::-1]]) + wares[1][2:]
        yield (places, [line + (draw.randint(1, room),) for line in lines]), wares[0], wares[1]


class FloorCase(unittest.TestCase):
    def is_floor(self, floor, one=SMALL_WARE, other=SMALL_WARE):
        before = deepcopy((floor, one, other))
        self.assertIn(both_go(floor, one, other)[0], ("double", "cut"))
        self.assertIs(double_goes(floor, one, other, None), False)
        self.assertIs(cut_bars(floor, one, other, None), False)
        self.assertEqual((floor, one, other), before)

    def is_none(self, floor, one=SMALL_WARE, other=SMALL_WARE):
        """BadFloor by its class alone, from all that take a floor, whatever double or cut is handed in with it."""
        self.assertIs(refusal(both_go, floor, one, other), BadFloor, (floor, one, other))
        for thing in (([ONE], [NONE]), [0], None):
            self.assertIs(refusal(double_goes, floor, one, other, thing), BadFloor, (floor, one, other))
            self.assertIs(refusal(cut_bars, floor, one, other, thing), BadFloor, (floor, one, other))

    def is_none_and_as_it_was(self, floor, one=SMALL_WARE, other=SMALL_WARE):
        before = repr((floor, one, other))
        self.is_none(floor, one, other)
        self.assertEqual(repr((floor, one, other)), before)

    def is_no_ware(self, ware, floor=SMALL_FLOOR):
        self.is_none_and_as_it_was(floor, ware, SMALL_WARE)
        self.is_none_and_as_it_was(floor, SMALL_WARE, ware)
        self.is_none_and_as_it_was(floor, ware, ware)


class Floors(FloorCase):
    def test_places(self):
        for places in range(2, 9):
            self.is_floor(floor_of(places))
        for places in (-2, 0, 1, 9, 10, 10 ** 30):
            self.is_none_and_as_it_was(floor_of(places))

    def test_how_many_lines(self):
        for many in range(17):
            self.is_floor(floor_of(8, [pair + (1,) for pair in PAIRS[:many]]))
        for many in (17, 18, 28):
            self.is_none_and_as_it_was(floor_of(8, [pair + (1,) for pair in PAIRS[:many]]))

    def test_rooms(self):
        for room in range(1, 21):
            self.is_floor(floor_of(2, [(0, 1, room)]))
            self.is_floor(floor_of(3, [(0, 1, 1), (0, 2, 20), (1, 2, room)]))
        for room in (-1, 0, 21, 22, 10 ** 30, -10 ** 30):
            self.is_none_and_as_it_was(floor_of(2, [(0, 1, room)]))
            self.is_none_and_as_it_was(floor_of(3, [(0, 1, 1), (0, 2, 20), (1, 2, room)]))

    def test_all_pairs_of_places_of_a_line(self):
        for places in range(2, 9):
            for one, other in product(range(-2, places + 2), repeat=2):
                check = self.is_floor if 0 <= one < other < places else self.is_none_and_as_it_was
                check(floor_of(places, [(one, other, 1)]))

    def test_lines_that_rise(self):
        self.is_floor(floor_of(4, [(0, 1, 9), (0, 2, 3), (1, 2, 5), (1, 3, 4), (2, 3, 1)]))

    def test_lines_that_do_not_rise(self):
        for lines in (
            [(0, 2, 1), (0, 1, 1)], [(0, 2, 1), (0, 1, 2)], [(1, 2, 1), (0, 2, 2)], [(1, 2, 1), (0, 3, 1)],
            [(0, 1, 1), (1, 2, 1), (0, 2, 1)], [(0, 1, 1), (2, 3, 1), (1, 3, 1)], [(0, 1, 1), (2, 3, 1), (1, 2, 9)],
        ):
            self.is_none_and_as_it_was(floor_of(4, lines))

    def test_two_lines_with_the_same_places(self):
        for rooms in ((1, 1), (1, 2), (2, 1)):
            self.is_none_and_as_it_was(floor_of(2, [(0, 1, room) for room in rooms]))
            self.is_none_and_as_it_was(floor_of(3, [(0, 1, 1)] + [(1, 2, room) for room in rooms]))

    def test_the_greater_place_ahead(self):
        self.is_none_and_as_it_was(floor_of(2, [(1, 0, 1)]))
        self.is_none_and_as_it_was(floor_of(2, [(0, 1, 1), (1, 0, 1)]))
        self.is_none_and_as_it_was(floor_of(3, [(0, 1, 1), (2, 1, 1)]))

    def test_lists_and_tuples_in_each_others_place(self):
        self.is_none_and_as_it_was([2, [(0, 1, 1)]])
        self.is_none_and_as_it_was((2, ((0, 1, 1),)))
        self.is_none_and_as_it_was((2, ()))
        self.is_none_and_as_it_was((2, [[0, 1, 1]]))

    def test_too_few_and_too_many_parts(self):
        self.is_none_and_as_it_was((2,))
        self.is_none_and_as_it_was((2, [], []))
        for wrong in ((), (0,), (0, 1), (0, 1, 2, 3), (0, 1, 2, None)):
            self.is_none_and_as_it_was(floor_of(2, [wrong]))

    def test_truths_in_the_place_of_whole_numbers(self):
        for wrong in (True, False):
            self.is_none_and_as_it_was(floor_of(wrong))
        for wrong in ((False, 1, 1), (0, True, 1), (0, 1, True), (0, 1, False)):
            self.is_none_and_as_it_was(floor_of(2, [wrong]))

    def test_things_of_other_kinds(self):
        for path in ((), (0,), (1,), (1, 0), (1, 0, 0), (1, 0, 1), (1, 0, 2)):
            for thing in NOTHINGS:
                # What may stand there does so in the other tests.
                fits = type(thing) is int and 0 <= thing <= 20 or path == (1,) and thing == []
                if not fits and not hasattr(thing, "__next__"):
                    self.is_none(with_part(SMALL_FLOOR, path, thing))
        for thing in ((0.0, 1, 1), (0, 1.0, 1), (0, 1, 1.0), (0, 1, "1"), (0, 1, (1, 1))):
            self.is_none(floor_of(2, [thing]))
        self.is_none(floor_of(2.0))

    def test_a_list_that_holds_itself(self):
        ring = []
        ring.append(ring)
        self.is_none(ring)
        self.is_none((2, ring))
        self.is_none(SMALL_FLOOR, ring, SMALL_WARE)


class Wares(FloorCase):
    def test_wants(self):
        for wanted in (0, 1, 2, 20, 21, 199, 200):
            self.is_floor(SMALL_FLOOR, (0, 1, wanted), SMALL_WARE)
            self.is_floor(SMALL_FLOOR, SMALL_WARE, (1, 0, wanted))
            self.is_floor(SMALL_FLOOR, (0, 1, wanted), (0, 1, wanted))
        for wanted in (-1, 201, 202, -200, 10 ** 30):
            self.is_no_ware((0, 1, wanted))

    def test_all_pairs_of_places(self):
        for places in (2, 3, 8):
            for one, other in product(range(-2, places + 2), repeat=2):
                ware = (one, other, 1)
                if 0 <= one < places and 0 <= other < places and one != other:
                    self.is_floor(floor_of(places), ware, SMALL_WARE)
                    self.is_floor(floor_of(places), SMALL_WARE, ware)
                else:
                    self.is_no_ware(ware, floor_of(places))

    def test_like_places_even_if_nothing_is_wanted(self):
        self.is_no_ware((0, 0, 0))
        self.is_no_ware((1, 1, 200))

    def test_other_forms(self):
        for ware in ((), (0,), (0, 1), (0, 1, 1, 1), [0, 1, 1], "011", {0: 0, 1: 1, 2: 1}):
            self.is_no_ware(ware)

    def test_other_kinds(self):
        for ware in ((False, 1, 1), (True, 0, 1), (0, True, 1), (0, 1, True), (0, 1, False)):
            self.is_no_ware(ware)
        for ware in ((0.0, 1, 1), (0, 1.0, 1), (0, 1, 1.0), (0, 1, "1"), (0, 1, None), (0, 1, (1, 1))):
            self.is_no_ware(ware)
        for thing in NOTHINGS:
            self.is_none(SMALL_FLOOR, thing, SMALL_WARE)
            self.is_none(SMALL_FLOOR, SMALL_WARE, thing)


class Told(FloorCase):
    def goes(self, floor, one, other):
        """The double told, which goes by the test's own reckoning, in wholes and halves; no cut bars."""
        told = both_go(floor, one, other)
        self.assertEqual([type(told), len(told), told[0]], [tuple, 2, "double"], (floor, one, other, told))
        self.assertTrue(plain_double_goes(floor, one, other, told[1]), (floor, one, other, told))
        for row in told[1]:
            self.assertLessEqual({amount[1] for amount in row}, {1, 2}, (floor, one, other, told))
        self.assertIs(double_goes(floor, one, other, told[1]), True)
        for cut in all_cuts(floor):
            self.assertFalse(plain_cut_bars(floor, one, other, cut), (floor, one, other, cut))
        return told[1]

    def is_barred(self, floor, one, other):
        """The cut told, which bars by the test's own reckoning."""
        told = both_go(floor, one, other)
        self.assertEqual([type(told), len(told), told[0]], [tuple, 2, "cut"], (floor, one, other, told))
        cut = told[1]
        self.assertEqual([type(cut)] + [type(place) for place in cut], [list] + [int] * len(cut))
        self.assertIn(cut, all_cuts(floor))
        self.assertTrue(plain_cut_bars(floor, one, other, cut), (floor, one, other, cut))
        self.assertIs(cut_bars(floor, one, other, cut), True)
        return cut

    def test_drawn_floors(self):
        seen = {"whole": 0, "half": 0, "cut": 0}
        for floor, one, other in drawn_floors(41, 1500):
            if any(plain_cut_bars(floor, one, other, cut) for cut in all_cuts(floor)):
                self.is_barred(floor, one, other)
                seen["cut"] += 1
            else:
                double = self.goes(floor, one, other)
                seen["half" if any(amount[1] == 2 for row in double for amount in row) else "whole"] += 1
        self.assertGreater(min(seen.values()), 80, seen)

    def test_cuts_are_at_times_told_by_the_second_flow_alone(self):
        # Of two wares of opposite turns over a line the first flow sends the difference alone.
        self.is_barred((2, [(0, 1, 3)]), (0, 1, 2), (1, 0, 2))
        self.is_barred((2, [(0, 1, 3)]), (0, 1, 2), (0, 1, 2))
        self.is_barred((2, [(0, 1, 20)]), (0, 1, 200), (1, 0, 200))

    def test_the_same_places_in_the_same_turn_and_in_opposite_turns(self):
        for one, other in (((0, 1, 2), (0, 1, 1)), ((0, 1, 2), (1, 0, 1)), ((1, 0, 1), (0, 1, 2)), ((1, 0, 3), (1, 0, 0))):
            self.goes((2, [(0, 1, 3)]), one, other)
            self.is_barred((2, [(0, 1, 2)]), one, other)
        self.assertEqual(self.goes((2, [(0, 1, 3)]), (0, 1, 2), (1, 0, 1)), ([TWO], [(-1, 1)]))

    def test_a_want_of_nought(self):
        for wanted in (0, 3):
            self.goes((2, [(0, 1, 3)]), (0, 1, wanted), (0, 1, 0))
            self.goes((2, [(0, 1, 3)]), (0, 1, 0), (1, 0, wanted))
        self.is_barred((2, [(0, 1, 3)]), (0, 1, 4), (0, 1, 0))
        self.is_barred((2, [(0, 1, 3)]), (0, 1, 0), (1, 0, 4))
        self.assertEqual(self.goes((8, []), (0, 1, 0), (7, 3, 0)), ([], []))

    def test_no_lines(self):
        self.is_barred((2, []), (0, 1, 1), (0, 1, 0))
        self.is_barred((2, []), (0, 1, 0), (1, 0, 1))
        self.is_barred((8, []), (0, 1, 200), (6, 5, 200))

    def test_one_line(self):
        self.goes((2, [(0, 1, 20)]), (1, 0, 20), (0, 1, 0))
        self.goes((2, [(0, 1, 1)]), (1, 0, 1), (0, 1, 0))
        self.is_barred((2, [(0, 1, 20)]), (1, 0, 20), (0, 1, 1))
        self.is_barred((2, [(0, 1, 20)]), (1, 0, 21), (0, 1, 0))

    def test_wares_that_share_one_place(self):
        for one, other in product(((0, 1), (1, 0)), ((1, 2), (2, 1), (0, 2), (2, 0))):
            self.goes(PATH, one + (1,), other + (2,))
            self.is_barred(PATH, one + (1,), other + (3,))
            self.is_barred(PATH, one + (4,), other + (0,))

    def test_only_halves_go_across_the_square(self):
        whole = [-1, 0, 1]
        for turn in ((1, 3, 1), (3, 1, 1)):
            double = self.goes(SQUARE, ACROSS, turn)
            self.assertEqual({amount[1] for row in double for amount in row}, {2})
            for amounts in product(whole, repeat=8):
                pairs = [(amount, 1) for amount in amounts]
                self.assertFalse(plain_double_goes(SQUARE, ACROSS, turn, (pairs[:4], pairs[4:])))
        self.is_barred(SQUARE, (0, 2, 2), (1, 3, 1))

    def test_only_halves_go_on_a_greater_floor(self):
        # The square, with a corner drawn out into a line of its own and a line beside it that leads nowhere.
        floor = (6, [(0, 1, 1), (0, 3, 1), (1, 2, 1), (2, 3, 1), (2, 4, 1), (4, 5, 20)])
        double = self.goes(floor, (0, 4, 1), (3, 1, 1))
        self.assertIn(2, {amount[1] for row in double for amount in row})
        self.goes(floor, (0, 5, 1), (3, 1, 1))
        self.is_barred(floor, (0, 5, 2), (3, 1, 0))

    def test_greatest_floors(self):
        floor = (8, [pair + (20,) for pair in PAIRS[:16]])
        self.is_barred(floor, (0, 7, 200), (1, 6, 200))
        self.is_barred(floor, (0, 1, 200), (0, 1, 200))
        self.goes(floor, (0, 1, 40), (0, 1, 20))
        self.goes(floor, (0, 2, 100), (1, 0, 0))


class Doubles(FloorCase):
    def shows(self, floor, one, other, double, wanted):
        before = repr((floor, one, other, double))
        self.assertIs(double_goes(floor, one, other, double), wanted, (floor, one, other, double))
        self.assertEqual(repr((floor, one, other, double)), before)

    def test_others_that_are_so(self):
        self.shows(SQUARE, ACROSS, OTHER_ACROSS, SQUARE_DOUBLE, True)
        self.shows(SQUARE, OTHER_ACROSS, ACROSS, SQUARE_DOUBLE[::-1], True)
        self.shows(SQUARE, OTHER_ACROSS, ACROSS, SQUARE_DOUBLE, False)
        for part in (NONE, ONE, (1, 3), (7, 9)):
            rest = Fraction(1) - Fraction(*part)
            left = (rest.numerator, rest.denominator)
            self.shows(SQUARE, ACROSS, (1, 3, 0), ([part, left, part, (-left[0], left[1])], [NONE] * 4), True)
        self.shows(SQUARE, (0, 2, 0), (1, 3, 0), ([NONE] * 4, [NONE] * 4), True)

    def test_a_round_may_go_along(self):
        for part in ((1, 1), (1, 2), (-1, 3), (-1, 1)):
            back = (-part[0], part[1])
            self.shows(SQUARE, (0, 2, 0), (1, 3, 0), ([part, back, part, part], [NONE] * 4), True)
            self.shows(SQUARE, (0, 2, 0), (1, 3, 0), ([part, part, part, part], [NONE] * 4), False)

    def test_below_nought_is_the_other_way_about(self):
        self.shows(PATH, (2, 0, 2), (2, 1, 0), ([(-2, 1), (-2, 1)], [NONE, NONE]), True)
        self.shows(PATH, (2, 0, 2), (2, 1, 0), ([TWO, TWO], [NONE, NONE]), False)
        self.shows(PATH, (0, 2, 2), (2, 1, 0), ([(-2, 1), (-2, 1)], [NONE, NONE]), False)

    def test_more_or_less_than_is_wanted(self):
        for amount in (NONE, ONE, (3, 2), (199, 100), (-2, 1)):
            self.shows(PATH, (0, 2, 2), (1, 0, 1), ([amount, amount], [(-1, 1), NONE]), False)
            self.shows(PATH, (1, 0, 1), (0, 2, 2), ([(-1, 1), NONE], [amount, amount]), False)
        self.shows(PATH, (0, 2, 2), (1, 0, 1), ([TWO, TWO], [(-1, 1), NONE]), True)
        self.shows(PATH, (0, 2, 2), (1, 0, 0), ([TWO, TWO], [(-1, 1), NONE]), False)

    def test_something_is_lost_between(self):
        self.shows(PATH, (0, 2, 2), (1, 0, 0), ([TWO, ONE], [NONE, NONE]), False)
        self.shows(PATH, (0, 2, 1), (1, 0, 0), ([TWO, ONE], [NONE, NONE]), False)
        self.shows(PATH, (0, 2, 1), (1, 0, 0), ([ONE, TWO], [NONE, NONE]), False)
        self.shows(PATH, (0, 1, 1), (1, 0, 0), ([ONE, ONE], [NONE, NONE]), False)

    def test_what_one_ware_loses_the_other_cannot_make_up(self):
        self.shows(PATH, (0, 2, 1), (0, 2, 1), ([TWO, ONE], [NONE, ONE]), False)
        self.shows(PATH, (0, 2, 1), (0, 2, 1), ([ONE, ONE], [ONE, ONE]), True)
        self.shows(PATH, (0, 2, 2), (0, 2, 0), ([ONE, ONE], [ONE, ONE]), False)

    def test_room(self):
        line = (2, [(0, 1, 3)])
        for one, other in ((3, 0), (2, 1), (0, 3), (1, 1)):
            self.shows(line, (0, 1, one), (0, 1, other), ([(one, 1)], [(other, 1)]), True)
            self.shows(line, (0, 1, one), (1, 0, other), ([(one, 1)], [(-other, 1)]), True)
        for one, other in ((4, 0), (2, 2), (0, 4), (3, 1)):
            self.shows(line, (0, 1, one), (0, 1, other), ([(one, 1)], [(other, 1)]), False)
            self.shows(line, (0, 1, one), (1, 0, other), ([(one, 1)], [(-other, 1)]), False)
            self.shows(line, (1, 0, one), (0, 1, other), ([(-one, 1)], [(other, 1)]), False)

    def test_a_little_too_much(self):
        great = 10 ** 30
        floor = (3, [(0, 1, 1), (0, 2, 1), (1, 2, 1)])
        for extra, wanted in ((0, True), (-1, True), (1, False)):
            more = Fraction(great + extra, great)
            amounts = [(more.numerator, more.denominator)]
            rest = Fraction(1) - more
            amounts += [(rest.numerator, rest.denominator)]
            double = ([amounts[0], amounts[1], (-amounts[1][0], amounts[1][1])], [NONE] * 3)
            self.shows(floor, (0, 1, 1), (0, 1, 0), double, wanted)

    def test_other_lengths(self):
        row = [NONE, NONE]
        for double in ((row, row[:1]), (row[:1], row), (row, row + [NONE]), (row + [NONE], row), ([], []), (row,),
                       (row, row, row), (), (row, [])):
            self.shows(PATH, (0, 1, 0), (1, 2, 0), double, False)
        self.shows(PATH, (0, 1, 0), (1, 2, 0), (row, row), True)

    def test_fractions_that_are_none(self):
        for wrong in ((2, 2), (1.0, 1), [1, 1], (True, 1), (1, True), True, 1, 1.0, "1", None, (-1, -1), (1, 0), (1,)):
            for path in ((0, 0), (1, 1)):
                double = with_part(([ONE, ONE], [ONE, ONE]), path, wrong)
                self.shows(PATH, (0, 2, 1), (0, 2, 1), double, False)
        for wrong in ((0, 2), (0, -1), (False, 1), (0, True), 0, False, None):
            self.shows(PATH, (0, 1, 0), (1, 2, 0), ([NONE, wrong], [NONE, NONE]), False)

    def test_lists_and_tuples_in_each_others_place(self):
        self.shows(PATH, (0, 1, 0), (1, 2, 0), [[NONE] * 2, [NONE] * 2], False)
        self.shows(PATH, (0, 1, 0), (1, 2, 0), ((NONE,) * 2, [NONE] * 2), False)
        self.shows(PATH, (0, 1, 0), (1, 2, 0), ([NONE] * 2, (NONE,) * 2), False)

    def test_things_of_other_kinds(self):
        self.shows(SMALL_FLOOR, (0, 1, 0), (1, 0, 1), ([NONE], [(-1, 1)]), True)
        for path in ((), (0,), (1,), (0, 0), (1, 0)):
            for thing in NOTHINGS:
                if not hasattr(thing, "__next__"):
                    bent = with_part(([NONE], [(-1, 1)]), path, thing)
                    self.assertIs(double_goes(SMALL_FLOOR, (0, 1, 0), (1, 0, 1), bent), False, bent)

    def test_each_bent_double(self):
        floors = [(SQUARE, ACROSS, OTHER_ACROSS), (PATH, (0, 1, 1), (2, 0, 1))] + list(drawn_floors(42, 60))
        seen = 0
        for floor, one, other in floors:
            told = both_go(floor, one, other)
            if told[0] == "double" and len(floor[1]) < 13:
                seen += 1
                for bent in bends(told[1]):
                    self.shows(floor, one, other, bent, plain_double_goes(floor, one, other, bent))
        self.assertGreater(seen, 15)

    def test_all_small_doubles(self):
        seen = {True: 0, False: 0}
        amounts = [(-1, 1), NONE, HALF, ONE]
        floor = (3, [(0, 1, 1), (0, 2, 2), (1, 2, 1)])
        for one, other in product(((0, 1, 1), (1, 2, 0)), ((2, 0, 1), (0, 1, 0), (1, 2, 1))):
            for row in product(amounts, repeat=6):
                double = (list(row[:3]), list(row[3:]))
                wanted = plain_double_goes(floor, one, other, double)
                self.assertIs(double_goes(floor, one, other, double), wanted, (one, other, double))
                seen[wanted] += 1
        self.assertGreater(seen[True], 10)


class Cuts(FloorCase):
    def shows(self, floor, one, other, cut, wanted):
        before = repr((floor, one, other, cut))
        self.assertIs(cut_bars(floor, one, other, cut), wanted, (floor, one, other, cut))
        self.assertEqual(repr((floor, one, other, cut)), before)

    def test_all_cuts_of_drawn_floors(self):
        seen = {True: 0, False: 0}
        for floor, one, other in drawn_floors(43, 120):
            for cut in all_cuts(floor):
                wanted = plain_cut_bars(floor, one, other, cut)
                self.shows(floor, one, other, cut, wanted)
                seen[wanted] += 1
        self.assertGreater(min(seen.values()), 500)

    def test_just_as_much_room_does_not_bar(self):
        for cut in ([0], [1]):
            self.shows((2, [(0, 1, 3)]), (0, 1, 2), (1, 0, 1), cut, False)
            self.shows((2, [(0, 1, 3)]), (0, 1, 2), (1, 0, 2), cut, True)
            self.shows((2, [(0, 1, 3)]), (0, 1, 2), (0, 1, 2), cut, True)
            self.shows((2, [(0, 1, 3)]), (0, 1, 3), (0, 1, 0), cut, False)
            self.shows((2, [(0, 1, 3)]), (0, 1, 0), (0, 1, 4), cut, True)

    def test_only_parted_wares_and_lines_count(self):
        self.shows(PATH, (0, 1, 9), (1, 2, 1), [0], True)
        self.shows(PATH, (0, 1, 9), (1, 2, 1), [0, 1], False)
        self.shows(PATH, (0, 1, 9), (1, 2, 3), [0, 1], True)
        self.shows(PATH, (0, 1, 9), (1, 2, 3), [2], True)
        self.shows(PATH, (0, 2, 2), (1, 2, 1), [0, 2], False)
        self.shows(PATH, (0, 1, 3), (1, 2, 3), [1], True)
        self.shows(PATH, (0, 1, 3), (1, 2, 3), [0, 2], True)

    def test_no_places_and_all_places_bar_nothing(self):
        for places in range(2, 9):
            for cut in ([], list(range(places))):
                self.shows((places, []), (0, 1, 200), (1, 0, 200), cut, False)
                self.shows((places, [(0, 1, 1)]), (0, 1, 200), (1, 0, 200), cut, False)

    def test_cuts_that_do_not_rise_or_have_a_place_twice(self):
        floor, one, other = (4, []), (0, 3, 1), (1, 2, 1)
        for cut in ([0, 1], [1, 3], [0], [0, 1, 2], [2, 3]):
            self.shows(floor, one, other, cut, True)
        for cut in ([1, 0], [3, 1], [0, 0], [0, 1, 1], [0, 0, 1], [0, 2, 1], [2, 0, 1]):
            self.shows(floor, one, other, cut, False)

    def test_places_that_are_not_there(self):
        for places in (2, 3, 8):
            floor, one, other = (places, []), (0, 1, 1), (0, 1, 1)
            for cut in ([-1, 0], [0, places], [0, places + 1], [-1], [places], [0, 10 ** 30]):
                self.shows(floor, one, other, cut, False)
            self.shows(floor, one, other, [0], True)

    def test_things_of_other_kinds(self):
        floor, one, other = (3, []), (0, 1, 1), (0, 1, 1)
        for cut in ((0,), [False], [True], [0, True], [0.0], ["0"], [None], [(0,)], [[0]], {0: True}, {0}, "0", 0, None):
            self.shows(floor, one, other, cut, False)
        for thing in NOTHINGS:
            self.assertIs(cut_bars(floor, one, other, thing), False, thing)
            self.assertIs(cut_bars(floor, one, other, [thing, 2]), type(thing) is int and thing in (0, 1), thing)

    def test_doubles_and_cuts_in_each_others_place(self):
        self.shows(SMALL_FLOOR, (0, 1, 4), (0, 1, 0), ("cut", [0]), False)
        self.shows(SMALL_FLOOR, (0, 1, 4), (0, 1, 0), ([NONE], [NONE]), False)
        self.assertIs(double_goes(SMALL_FLOOR, (0, 1, 0), (0, 1, 0), ("double", ([NONE], [NONE]))), False)
        self.assertIs(double_goes(SMALL_FLOOR, (0, 1, 0), (0, 1, 0), [0]), False)


if __name__ == "__main__":
    unittest.main()
