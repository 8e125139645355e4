"""What several of the tests need."""

from copy import deepcopy
from fractions import Fraction
from itertools import permutations
from math import gcd
from random import Random

SMALL_NET = (2, [(0, 1, 3)], [(0, 1, 2)])
SMALL_FLOW = [[(1, 2)]]
SMALL_FLOOR = (2, [(0, 1, 3)])
SMALL_WARE = (0, 1, 1)

# Things of all sorts of kinds that are neither a net nor a flow, nor a part of one.
NOTHINGS = [
    None, True, False, 0, 1, 2, 7, -1, 10 ** 40, 2.0, 0.5, 1j, "", "a", "ab", "abc", b"", b"abc",
    (), [], {}, set(), frozenset(), range(2), range(3), {0: 1, 1: 2, 2: 3}, {0, 1, 2}, object(), object,
    ValueError("net"), len, NotImplemented, ..., (None,), [None], [[None]], (None, None, None), [[], []],
    iter([1, 2, 3]), bytearray(b"abc"),
]

PAIRS = [(start, goal) for start in range(6) for goal in range(6) if start != goal]

EDGE_NETS = [
    # 2 places: no way, one, both turns of the same two places; rooms and wants of 1 and 20.
    (2, [], [(0, 1, 1)]),
    (2, [], [(0, 1, 20), (1, 0, 1), (0, 1, 3)]),
    (2, [(0, 1, 1)], [(0, 1, 1)]),
    (2, [(0, 1, 1)], [(0, 1, 20)]),
    (2, [(0, 1, 20)], [(0, 1, 1)]),
    (2, [(0, 1, 20)], [(0, 1, 20)]),
    (2, [(0, 1, 20)], [(1, 0, 20)]),
    (2, [(0, 1, 1), (1, 0, 20)], [(0, 1, 20), (1, 0, 1)]),
    (2, [(0, 1, 7), (1, 0, 5)], [(0, 1, 3), (1, 0, 2), (0, 1, 4)]),
    (2, [(0, 1, 1)], [(0, 1, 20), (0, 1, 20), (0, 1, 20)]),
    (2, [(0, 1, 20)], [(0, 1, 1), (0, 1, 1), (0, 1, 1)]),
    # 6 places: no way, and 10 ways.
    (6, [], [(5, 0, 1), (0, 5, 20), (2, 3, 7)]),
    (6, [pair + (1,) for pair in PAIRS[:10]], [(0, 5, 20), (1, 5, 20), (0, 4, 20)]),
    (6, [pair + (20,) for pair in PAIRS[:10]], [(0, 5, 1), (1, 5, 1), (0, 4, 1)]),
    (6, [pair + (20,) for pair in PAIRS[-10:]], [(5, 0, 20), (4, 0, 1), (4, 1, 20)]),
    (6, [(place, place + 1, 20 - place) for place in range(5)], [(0, 5, 1), (0, 3, 2), (2, 5, 20)]),
    # 5 places with both turns of 5 pairs: a ring either way about, wares of opposite turns.
    (5, sorted([(p, (p + 1) % 5, 1) for p in range(5)] + [((p + 1) % 5, p, 2) for p in range(5)]),
     [(0, 2, 1), (2, 0, 1), (1, 4, 3)]),
    # A ring on which each ware blocks two ways: only a half goes.
    (3, [(0, 1, 1), (1, 2, 1), (2, 0, 1)], [(0, 2, 1), (1, 0, 1), (2, 1, 1)]),
    # Two rows for a ware, which cross another ware's.
    (4, [(0, 1, 3), (0, 2, 2), (1, 2, 5), (1, 3, 1), (2, 3, 4)], [(0, 3, 2), (0, 3, 2), (1, 2, 1)]),
    # A ware without a row beside wares with one.
    (4, [(0, 1, 3), (1, 2, 2)], [(0, 2, 5), (2, 0, 1), (0, 1, 1)]),
]


def drawn_nets(seed, many):
    draw = Random(seed)
    nets = []
    for each in range(many):
        places = draw.randint(2, 6)
        pairs = [pair for pair in PAIRS if max(pair) < places]
        ways = min(len(pairs), draw.choice([10, 10, 9, 8, draw.randint(0, 10)]))
        nets.append((
            places,
            [pair + (draw.choice([1, 20, draw.randint(1, 20)]),) for pair in sorted(draw.sample(pairs, ways))],
            [draw.choice(pairs) + (draw.choice([1, 20, draw.randint(1, 20)]),) for ware in range(draw.randint(1, 3))],
        ))
    return nets


def refusal(call, *arguments):
    """The class of the error that the call raises, or None."""
    try:
        call(*arguments)
    except Exception as error:
        return type(error)
    return None


def with_part(thing, path, part):
    """A copy of the thing with another part at the place that the path of indexes leads to."""
    if not path:
        return part
    parts = [deepcopy(each) for each in thing]
    parts[path[0]] = with_part(parts[path[0]], path[1:], part)
    return type(thing)(parts)


def bends(thing):
    """Things like it, each with one part bent: another kind, form, length or number. They share their other parts."""
    for other in (None, "ab", 1, True, 0.5, [thing], (thing,), {}, [], ()):
        yield other
    if isinstance(thing, (list, tuple)):
        yield tuple(thing) if isinstance(thing, list) else list(thing)
        for parts in (thing[1:], thing[:-1], thing + thing[-1:], thing[:1] + thing):
            yield parts
        for number, part in enumerate(thing):
            for other in bends(part):
                yield type(thing)([*thing[:number], other, *thing[number + 1:]])
    elif type(thing) is int:
        yield from (thing + 1, thing - 1, -thing, 2 * thing, float(thing), str(thing), bool(thing))
    if is_plain_fraction(thing):
        top, under = thing
        yield from ((top + under, under), (top - under, under), (2 * top, 2 * under), (-top, -under))
        yield from (pair_of(Fraction(*thing) + step) for step in (Fraction(1, 3), Fraction(-1, 3), Fraction(1, 10 ** 9)))


def lists_in(thing):
    """All lists that the thing holds, as often as they stand there."""
    if not isinstance(thing, (list, tuple)):
        return []
    own = [thing] if isinstance(thing, list) else []
    return own + [found for part in thing for found in lists_in(part)]


def pair_of(fraction):
    return (fraction.numerator, fraction.denominator)


def is_plain_fraction(thing):
    return (
        type(thing) is tuple and len(thing) == 2 and type(thing[0]) is int and type(thing[1]) is int
        and thing[1] > 0 and gcd(thing[0], thing[1]) == 1
    )


def are_plain_amounts(thing, length):
    """Whether it is a list of so many fractions, none below nought."""
    return type(thing) is list and len(thing) == length and all(is_plain_fraction(p) and p[0] >= 0 for p in thing)


def plainly(net, flow):
    """What goes and brought should tell, reckoned place by place with Python's own fractions."""
    places, ways, wares = net
    fractions = [[Fraction(*amount) for amount in row] for row in flow]
    gains = [[Fraction(0)] * places for row in flow]
    for number, row in enumerate(fractions):
        for (start, goal, room), amount in zip(ways, row):
            gains[number][start] -= amount
            gains[number][goal] += amount
    kept = all(
        gains[number][place] == 0
        for number, ware in enumerate(wares) for place in range(places) if place not in ware[:2]
    )
    fits = all(sum(row[number] for row in fractions) <= way[2] for number, way in enumerate(ways))
    bring = [gains[number][ware[1]] for number, ware in enumerate(wares)]
    return kept and fits, [pair_of(each) for each in bring]


def plainly_brings(net, flow, shares):
    """Whether it is a flow that goes and brings just so many times what is wanted of each ware."""
    if type(flow) is not list or len(flow) != len(net[2]):
        return False
    if not all(are_plain_amounts(row, len(net[1])) for row in flow):
        return False
    wanted = [pair_of(Fraction(*share) * ware[2]) for share, ware in zip(shares, net[2])]
    return plainly(net, flow) == (True, wanted)


def all_rows(net, ware):
    """All rows of ways from the ware's first place to its goal that come to no place twice, as numbers of ways."""
    numbers = {way[:2]: number for number, way in enumerate(net[1])}
    between = [place for place in range(net[0]) if place not in ware[:2]]
    for many in range(len(between) + 1):
        for chosen in permutations(between, many):
            stops = (ware[0],) + chosen + (ware[1],)
            steps = list(zip(stops, stops[1:]))
            if all(step in numbers for step in steps):
                yield [numbers[step] for step in steps]


def has_row(net, ware):
    return any(True for row in all_rows(net, ware))


def plain_paper(net, paper):
    """The prices and heights as Python's own fractions, or None if it is no paper or a row costs too little."""
    if type(paper) is not tuple or len(paper) != 2:
        return None
    if not are_plain_amounts(paper[0], len(net[1])) or not are_plain_amounts(paper[1], len(net[2])):
        return None
    prices, heights = [[Fraction(*each) for each in row] for row in paper]
    for ware, height in zip(net[2], heights):
        if any(height > sum(prices[number] for number in row) for row in all_rows(net, ware)):
            return None
    return prices, heights


def plain_worth(net, prices):
    return sum((price * way[2] for price, way in zip(prices, net[1])), Fraction(0))


def plainly_shows_share(net, triple):
    if type(triple) is not tuple or len(triple) != 3 or not is_plain_fraction(triple[0]):
        return False
    paper = plain_paper(net, triple[2])
    return (
        plainly_brings(net, triple[1], [triple[0]] * len(net[2]))
        and paper is not None
        and sum(height * ware[2] for height, ware in zip(paper[1], net[2])) == 1
        and plain_worth(net, paper[0]) == Fraction(*triple[0])
    )


def plainly_shows_fair(net, triple):
    if type(triple) is not tuple or len(triple) != 3 or not are_plain_amounts(triple[0], len(net[2])):
        return False
    if not plainly_brings(net, triple[1], triple[0]):
        return False
    if type(triple[2]) is not list or len(triple[2]) != len(net[2]):
        return False
    shares = [Fraction(*share) for share in triple[0]]
    return all(plainly_bars(net, shares, paper, number) for number, paper in enumerate(triple[2]))


def plainly_bars(net, shares, paper, number):
    read = plain_paper(net, paper)
    if read is None:
        return False
    prices, heights = read
    greater = [height for share, height in zip(shares, heights) if share > shares[number]]
    brought = sum(height * share * ware[2] for height, share, ware in zip(heights, shares, net[2]))
    return heights[number] > 0 and not any(greater) and plain_worth(net, prices) == brought
