"""Whole numbers, and fractions: pairs of a top and an under above nought, without a common divisor but 1."""

NOUGHT = (0, 1)
ONE = (1, 1)


# True and False are ints to Python, but no whole numbers to the document.
def is_whole(thing):
    return isinstance(thing, int) and not isinstance(thing, bool)


# The under is above nought, so that no rest, and with it the answer, is below nought, whatever the top.
def common_divisor(top, under):
    while under != 0:
        rest = top % under
        top = under
        under = rest
    return top


def is_fraction(thing):
    return (
        isinstance(thing, tuple)
        and len(thing) == 2
        and is_whole(thing[0])
        and is_whole(thing[1])
        and thing[1] > 0
        and common_divisor(thing[0], thing[1]) == 1
    )


def reduced(top, under):
    divisor = common_divisor(top, under)
    return (top // divisor, under // divisor)


def plus(one, other):
    return reduced(one[0] * other[1] + other[0] * one[1], one[1] * other[1])


def minus(one, other):
    return plus(one, (-other[0], other[1]))


def times(one, other):
    return reduced(one[0] * other[0], one[1] * other[1])


def total(parts):
    found = NOUGHT
    for part in parts:
        found = plus(found, part)
    return found


def is_more(one, other):
    return one[0] * other[1] > other[0] * one[1]
