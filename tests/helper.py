"""What several of the tests need."""

from copy import deepcopy

SMALL_NET = (2, [(0, 1, 3)], [(0, 1, 2)])
SMALL_FLOW = [[(1, 2)]]

# Things of all sorts of kinds that are neither a net nor a flow, nor a part of one.
NOTHINGS = [
    None, True, False, 0, 1, 2, 7, -1, 10 ** 40, 2.0, 0.5, 1j, "", "a", "ab", "abc", b"", b"abc",
    (), [], {}, set(), frozenset(), range(2), range(3), {0: 1, 1: 2, 2: 3}, {0, 1, 2}, object(), object,
    ValueError("net"), len, NotImplemented, ..., (None,), [None], [[None]], (None, None, None), [[], []],
    iter([1, 2, 3]), bytearray(b"abc"),
]


def refusal(call, *arguments):
    """The class of the error that the call raises, or None."""
    try:
        call(*arguments)
    except Exception as error:
        return type(error)
    return None


def with_part(thing, path, part):
    """A copy of the thing with another part at the place that the path of indexes leads to."""
    if not path:
        return part
    parts = [deepcopy(each) for each in thing]
    parts[path[0]] = with_part(parts[path[0]], path[1:], part)
    return type(thing)(parts)
