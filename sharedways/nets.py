"""Nets, the flows on them, whether a flow goes and what it brings."""

from sharedways.errors import BadFlow, BadNet
from sharedways.fractions import NOUGHT, is_fraction, is_more, is_whole, minus, plus, total

LEAST_PLACES = 2
MOST_PLACES = 6
MOST_WAYS = 10
LEAST_WARES = 1
MOST_WARES = 3
LEAST_AMOUNT = 1
MOST_AMOUNT = 20


def need_net(net):
    if not is_net(net):
        raise BadNet("this is no net")


def need_flow(net, flow):
    if not is_flow(net, flow):
        raise BadFlow("this is no flow of the net")


def goes(net, flow):
    need_net(net)
    need_flow(net, flow)
    return loses_nothing(net, flow) and has_room(net, flow)


def brought(net, flow):
    need_net(net)
    need_flow(net, flow)
    return [gain(net[1], row, ware[1]) for ware, row in zip(net[2], flow)]


def is_net(net):
    return (
        is_triple(net)
        and is_within(net[0], LEAST_PLACES, MOST_PLACES)
        and are_ways(net[1], net[0])
        and are_wares(net[2], net[0])
    )


def is_pair(thing):
    return isinstance(thing, tuple) and len(thing) == 2


def is_triple(thing):
    return isinstance(thing, tuple) and len(thing) == 3


def is_within(thing, least, most):
    return is_whole(thing) and least <= thing <= most


def are_ways(things, places):
    return (
        isinstance(things, list)
        and len(things) <= MOST_WAYS
        and all([is_trip(thing, places, LEAST_AMOUNT, MOST_AMOUNT) for thing in things])
        and are_rising(things)
    )


def are_wares(things, places):
    return (
        isinstance(things, list)
        and LEAST_WARES <= len(things) <= MOST_WARES
        and all([is_trip(thing, places, LEAST_AMOUNT, MOST_AMOUNT) for thing in things])
    )


# Ways and wares have one form: from, to, and the room or what is wanted.
def is_trip(thing, places, least, most):
    return (
        is_triple(thing)
        and is_within(thing[0], 0, places - 1)
        and is_within(thing[1], 0, places - 1)
        and thing[0] != thing[1]
        and is_within(thing[2], least, most)
    )


# The rooms are left out, since two ways with the same places in the same turn are refused whatever their rooms.
def are_rising(ways):
    return all([way[:2] < later[:2] for way, later in zip(ways, ways[1:])])


# The net is one already: its refusal comes ahead of the flow's.
def is_flow(net, flow):
    return (
        isinstance(flow, list)
        and len(flow) == len(net[2])
        and all([is_row(row, len(net[1])) for row in flow])
    )


def is_row(row, length):
    return isinstance(row, list) and len(row) == length and all([is_amount(thing) for thing in row])


def is_amount(thing):
    return is_fraction(thing) and thing[0] >= 0


def loses_nothing(net, flow):
    return all([keeps_all(net, ware, row) for ware, row in zip(net[2], flow)])


def keeps_all(net, ware, row):
    between = [place for place in range(net[0]) if place not in ware[:2]]
    return all([gain(net[1], row, place) == NOUGHT for place in between])


# What comes to the place, less what leaves it.
def gain(ways, row, place):
    found = NOUGHT
    for way, amount in zip(ways, row):
        if way[1] == place:
            found = plus(found, amount)
        if way[0] == place:
            found = minus(found, amount)
    return found


def has_room(net, flow):
    return not any([is_more(load(flow, number), (way[2], 1)) for number, way in enumerate(net[1])])


def load(flow, number):
    return total([row[number] for row in flow])
