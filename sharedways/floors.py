"""Floors, whose lines go either way about, and two wares on them: in wholes and halves, or a cut that bars them."""

from sharedways.errors import BadFloor
from sharedways.fractions import NOUGHT, is_fraction, is_more, plus, reduced
from sharedways.nets import are_rising, gain, is_pair, is_trip, is_within

LEAST_PLACES = 2
MOST_PLACES = 8
MOST_LINES = 16
LEAST_ROOM = 1
MOST_ROOM = 20
LEAST_WANTED = 0
MOST_WANTED = 200


# One flow takes both wares from their first places to their goals, a second one takes the other ware from its goal
# to its first place. Half their sum brings the one ware, half their difference the other, and on each line both
# halves together are no more than the greater of the two flows. A cut that bars either flow bars the wares.
def both_go(floor, one, other):
    need_floor(floor, one, other)
    along = whole_flow(floor, supplies(floor, one, other))
    if along[0] == "cut":
        return along
    against = whole_flow(floor, supplies(floor, one, (other[1], other[0], other[2])))
    if against[0] == "cut":
        return against
    half_sums = [reduced(amount + back, 2) for amount, back in zip(along[1], against[1])]
    half_gaps = [reduced(amount - back, 2) for amount, back in zip(along[1], against[1])]
    return ("double", (half_sums, half_gaps))


def double_goes(floor, one, other, double):
    need_floor(floor, one, other)
    return (
        is_double(floor, double)
        and brings_wanted(floor, one, double[0])
        and brings_wanted(floor, other, double[1])
        and has_room_for_both(floor, double)
    )


def cut_bars(floor, one, other, cut):
    need_floor(floor, one, other)
    return is_cut(floor, cut) and parted_sum(floor[1], cut) < parted_sum([one, other], cut)


def need_floor(floor, one, other):
    if not (is_floor(floor) and is_ware(floor, one) and is_ware(floor, other)):
        raise BadFloor("this is no floor with two wares")


def is_floor(floor):
    return (
        is_pair(floor)
        and is_within(floor[0], LEAST_PLACES, MOST_PLACES)
        and isinstance(floor[1], list)
        and len(floor[1]) <= MOST_LINES
        and all([is_line(thing, floor[0]) for thing in floor[1]])
        and are_rising(floor[1])
    )


def is_line(thing, places):
    return is_trip(thing, places, LEAST_ROOM, MOST_ROOM) and thing[0] < thing[1]


# The floor is one already.
def is_ware(floor, thing):
    return is_trip(thing, floor[0], LEAST_WANTED, MOST_WANTED)


# What is to leave each place, less what is to come there.
def supplies(floor, one, other):
    left = [0 for place in range(floor[0])]
    for ware in (one, other):
        left[ware[0]] += ware[2]
        left[ware[1]] -= ware[2]
    return left


# ("flow", a whole number for each line) or ("cut", a list of places). Where no more can be sent from a place, all
# lines out of those that can be reached from it are full, and yet more was to leave them.
def whole_flow(floor, left):
    flow = [0 for line in floor[1]]
    giver = first_above_nought(left)
    while giver is not None:
        steps = explored(floor[1], flow, giver)
        takers = [place for place in sorted(steps) if left[place] < 0]
        if not takers:
            return ("cut", sorted(steps))
        route = route_to(steps, takers[0])
        spares = [spare(floor[1][number], flow[number], place) for place, number in route]
        amount = min([left[giver], -left[takers[0]]] + spares)
        flow = sent(floor[1], flow, route, amount)
        left[giver] -= amount
        left[takers[0]] += amount
        giver = first_above_nought(left)
    return ("flow", flow)


def first_above_nought(left):
    for place, amount in enumerate(left):
        if amount > 0:
            return place
    return None


# For each place that can be reached: the place ahead of it and the number of the line between, of the giver None.
def explored(lines, flow, giver):
    steps = {giver: None}
    waiting = [giver]
    while waiting:
        place = waiting.pop(0)
        for number, line in enumerate(lines):
            far = line[1] if line[0] == place else line[0]
            if place in line[:2] and far not in steps and spare(line, flow[number], place) > 0:
                steps[far] = (place, number)
                waiting.append(far)
    return steps


# How much more can go from the place over the line; what comes the other way about makes room.
def spare(line, amount, place):
    return line[2] - amount if line[0] == place else line[2] + amount


def route_to(steps, goal):
    route = []
    step = steps[goal]
    while step is not None:
        route.append(step)
        step = steps[step[0]]
    return route


def sent(lines, flow, route, amount):
    after = list(flow)
    for place, number in route:
        after[number] += amount if lines[number][0] == place else -amount
    return after


def is_double(floor, double):
    return is_pair(double) and all([are_fractions(row, len(floor[1])) for row in double])


def are_fractions(row, length):
    return isinstance(row, list) and len(row) == length and all([is_fraction(thing) for thing in row])


def brings_wanted(floor, ware, row):
    return all([gain(floor[1], row, place) == wanted_gain(ware, place) for place in range(floor[0])])


def wanted_gain(ware, place):
    if place == ware[0]:
        return (-ware[2], 1)
    return (ware[2], 1) if place == ware[1] else NOUGHT


def has_room_for_both(floor, double):
    loads = [plus(without_turn(one), without_turn(other)) for one, other in zip(double[0], double[1])]
    return not any([is_more(load, (line[2], 1)) for load, line in zip(loads, floor[1])])


def without_turn(amount):
    return (abs(amount[0]), amount[1])


def is_cut(floor, cut):
    return (
        isinstance(cut, list)
        and all([is_within(place, 0, floor[0] - 1) for place in cut])
        and all([place < later for place, later in zip(cut, cut[1:])])
    )


# Lines with their rooms and wares with what is wanted have one form.
def parted_sum(trips, cut):
    return sum([trip[2] for trip in trips if (trip[0] in cut) != (trip[1] in cut)])
