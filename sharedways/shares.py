"""The greatest share of a net, and the papers by whose prices no greater one can go."""

from sharedways.boards import best
from sharedways.fractions import NOUGHT, ONE, is_fraction, is_more, minus, plus, times, total
from sharedways.nets import brought, goes, is_flow, is_pair, is_row, is_triple, need_net


def greatest_share(net):
    need_net(net)
    return raised(net, [None for ware in net[2]])


def shows_share(net, triple):
    need_net(net)
    return (
        is_triple(triple)
        and is_fraction(triple[0])
        and brings(net, triple[1], [triple[0] for ware in net[2]])
        and is_paper(net, triple[2])
        and total(by_wants(net, triple[2][1])) == ONE
        and worth(net, triple[2][0]) == triple[0]
    )


# The greatest share that all wares can have alike for which held has None, while the others have what it says; a
# flow that brings just so much; and the paper whose prices and heights bar more.
# The share is the first amount on the board and the whole of its goal. Once it is a row's own it stays so, since the
# goal's row is then like that row and never above nought where another comes in: so the heights of those wares times
# what is wanted come to just 1, and not to more, of a share of nought too.
def raised(net, held):
    lanes = lanes_of(net)
    wares = len(net[2])
    rows = [ware_row(net[2][number][2], lanes, held[number], number) for number in range(wares)]
    rows.extend([way_row(lanes, number) for number in range(len(net[1]))])
    told = best([1] + [0 for lane in lanes], rows, bounds_of(net, held))
    share = told[0][0]
    wanted = by_wants(net, [share if kept is None else kept for kept in held])
    flow = [flow_row(len(net[1]), lanes, told[0][1:], number, wanted[number]) for number in range(wares)]
    return (share, flow, (told[1][wares:], told[1][:wares]))


# A lane is a pair of a ware's number and a trail of it.
def lanes_of(net):
    lanes = []
    for number, ware in enumerate(net[2]):
        lanes.extend([(number, trail) for trail in trails_of(net[1], [ware[0]], ware[1])])
    return lanes


# A trail is a row of ways, told by their numbers, that comes to no place twice: a row that does costs no less and
# brings no more.
def trails_of(ways, seen, goal):
    if seen[-1] == goal:
        return [[]]
    trails = []
    for number, way in enumerate(ways):
        if way[0] == seen[-1] and way[1] not in seen:
            trails.extend([[number] + rest for rest in trails_of(ways, seen + [way[1]], goal)])
    return trails


# What the ware is to bring, less what its lanes bring, is to be no more than the bound.
def ware_row(wanted, lanes, kept, number):
    return [wanted if kept is None else 0] + [-1 if lane[0] == number else 0 for lane in lanes]


def way_row(lanes, number):
    return [0] + [1 if number in lane[1] else 0 for lane in lanes]


def bounds_of(net, held):
    brings_less = by_wants(net, [NOUGHT if kept is None else (-kept[0], kept[1]) for kept in held])
    return brings_less + [(way[2], 1) for way in net[1]]


# The lanes may bring more than is wanted; what is more is left where it is.
def flow_row(ways, lanes, amounts, number, wanted):
    row = [NOUGHT for each in range(ways)]
    left = wanted
    for lane, amount in zip(lanes, amounts):
        if lane[0] == number:
            taken = left if is_more(amount, left) else amount
            left = minus(left, taken)
            row = [plus(load, taken) if way in lane[1] else load for way, load in enumerate(row)]
    return row


def by_wants(net, fractions):
    return [times(fraction, (ware[2], 1)) for fraction, ware in zip(fractions, net[2])]


def brings(net, flow, shares):
    return is_flow(net, flow) and goes(net, flow) and brought(net, flow) == by_wants(net, shares)


def is_paper(net, paper):
    return (
        is_pair(paper)
        and is_row(paper[0], len(net[1]))
        and is_row(paper[1], len(net[2]))
        and not any([is_more(paper[1][lane[0]], cost(paper[0], lane[1])) for lane in lanes_of(net)])
    )


def cost(prices, trail):
    return total([prices[number] for number in trail])


def worth(net, prices):
    return total([times(price, (way[2], 1)) for price, way in zip(prices, net[1])])
