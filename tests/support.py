"""What several tests need: things that are of no use, small works, and a plain second way to count places."""

import time
from decimal import Decimal
from fractions import Fraction

from lentwork.errors import LentError

BIG = 10 ** 17  # eighteen figures


class Thorny:
    """Answers no question: what looks closer than at its kind is caught."""

    def deny(self, *handed):
        raise RuntimeError("a thing of another kind was asked")

    __eq__ = __ne__ = __lt__ = __le__ = __gt__ = __ge__ = deny
    __hash__ = __len__ = __iter__ = __getitem__ = __contains__ = deny
    __bool__ = __int__ = __index__ = __add__ = __radd__ = deny


class Seeming:
    """Could be made a whole number, but is none."""

    def __int__(self):
        return 1

    __index__ = __int__

    def __eq__(self, other):
        return other == 1

    def __hash__(self):
        return hash(1)


def no_wholes():
    """Things that are no whole numbers, anew each time."""
    holder = []
    holder.append(holder)
    return [
        True, False, None, 0.0, 1.0, 2.5, float("nan"), float("inf"), 1j, Fraction(1), Decimal(1),
        "", "1", "a", b"1", (), (1,), (0, 1), [], [1], {}, {1: 1}, set(), frozenset([1]), range(2),
        object(), int, len, lambda: 1, iter((1,)), holder, Seeming(), Thorny(), NotImplemented, ...,
    ]


def no_works():
    """Things that are no work, anew each time."""
    return other_kinds() + no_stretch_within() + wrong_numbers() + out_of_order()


def other_kinds():
    return [thing for thing in no_wholes() if not (isinstance(thing, tuple) and not thing)] + [
        0, 1, -1, 7, BIG, [(0, 1)], [[0, 1]], "((0, 1),)", {(0, 1): 1}, {(0, 1)}, frozenset([(0, 1)]),
        iter(((0, 1),)), zip((0,), (1,)), ((0, 1) for _ in range(1)),
    ]


def no_stretch_within():
    bad = [
        (), (0,), (0, 1, 2), (0, 1, 2, 3), [0, 1], [], {0: 1, 1: 2}, {0, 1}, range(2), range(0, 2), "01", "ab", b"01",
        None, 0, 5, True, ((0, 1),), ((0, 1), (2, 3)), object(), Thorny(), Seeming(), iter((0, 1)),
    ]
    return in_each_seat(bad) + [(0, 1), (5, 9), ((((0, 1),),),)]


def wrong_numbers():
    bad = [(0, 0), (1, 0), (4, 4), (5, 4), (9, 2), (-1, -1), (-1, -2), (BIG, BIG), (BIG, BIG - 1), (1, -1)]
    for thing in no_wholes():
        bad += [(thing, 5), (0, thing), (thing, thing)]
    return in_each_seat(bad)


def in_each_seat(bad):
    """Each bad stretch alone, and ahead of, between and behind good ones."""
    works = []
    for stretch in bad:
        works += [
            (stretch,), (stretch, (20, 21)), ((-20, -10), stretch), ((-20, -10), stretch, (20, 21)),
            ((-20, -15), (-15, -10), stretch),
        ]
    return works


def out_of_order():
    return [
        ((0, 2), (1, 3)), ((0, 2), (0, 2)), ((0, 5), (1, 2)), ((0, 5), (4, 6)), ((3, 4), (0, 1)), ((3, 4), (2, 3)),
        ((0, 1), (5, 6), (3, 4)), ((0, 1), (2, 5), (4, 6)), ((5, 6), (0, 1), (2, 3)), ((0, 1), (2, 3), (-2, -1)),
        ((0, 9), (9, 12), (8, 13)), ((-3, -1), (-2, 0)), ((-1, 1), (-3, -2)), ((BIG, BIG + 2), (BIG + 1, BIG + 3)),
        ((0, 1), (2, 3), (2, 3)), ((-5, 5), (-5, 5)), ((0, 1), (2, 4), (3, 4)),
    ]


def all_works(low, high):
    """Every work whose places lie from low up to ahead of high."""
    works = [()]
    for start in range(low, high):
        for end in range(start + 1, high + 1):
            works += [((start, end),) + later for later in all_works(end, high)]
    return works


def places_of(work):
    return {place for low, high in work for place in range(low, high)}


def short_of(places):
    """The short form, told place by place."""
    lows = sorted(place for place in places if place - 1 not in places)
    highs = sorted(place + 1 for place in places if place + 1 not in places)
    return tuple(zip(lows, highs))


def refused(case, kind, deed, *handed):
    """The deed is refused by an error of just this class."""
    with case.assertRaises(LentError) as caught:
        deed(*handed)
    case.assertIs(type(caught.exception), kind)


def in_short_time(case, deed, seconds=10):
    start = time.process_time()
    told = deed()
    case.assertLess(time.process_time() - start, seconds)
    return told


def assert_tuples_of_wholes(case, thing):
    """A tuple through and through, whose innermost parts are whole numbers."""
    if type(thing) is not int:
        case.assertIs(type(thing), tuple)
        for part in thing:
            assert_tuples_of_wholes(case, part)
