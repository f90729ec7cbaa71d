"""What several tests need: things that are of no use, small works, and a plain second way to count places."""

import random
import time
from decimal import Decimal
from fractions import Fraction

from lentwork.errors import (
    BadCut, BadJoin, BadMoment, BadTelling, LentError, Lost, NoLending, NoPiece, Otherwise,
)

BIG = 10 ** 17  # eighteen figures


class Thorny:
    """Answers no question: what looks closer than at its kind is caught."""

    def deny(self, *handed):
        raise RuntimeError("a thing of another kind was asked")

    __eq__ = __ne__ = __lt__ = __le__ = __gt__ = __ge__ = deny
    __hash__ = __len__ = __iter__ = __getitem__ = __contains__ = deny
    __bool__ = __int__ = __index__ = __add__ = __radd__ = deny


class Seeming:
    """Could be made a whole number, but is none."""

    def __int__(self):
        return 1

    __index__ = __int__

    def __eq__(self, other):
        return other == 1

    def __hash__(self):
        return hash(1)


def no_wholes():
    """Things that are no whole numbers, anew each time."""
    holder = []
    holder.append(holder)
    return [
        True, False, None, 0.0, 1.0, 2.5, float("nan"), float("inf"), 1j, Fraction(1), Decimal(1),
        "", "1", "a", b"1", (), (1,), (0, 1), [], [1], {}, {1: 1}, set(), frozenset([1]), range(2),
        object(), int, len, lambda: 1, iter((1,)), holder, Seeming(), Thorny(), NotImplemented, ...,
    ]


def no_works():
    """Things that are no work, anew each time."""
    return other_kinds() + no_stretch_within() + wrong_numbers() + out_of_order()


def other_kinds():
    return [thing for thing in no_wholes() if not (isinstance(thing, tuple) and not thing)] + [
        0, 1, -1, 7, BIG, [(0, 1)], [[0, 1]], "((0, 1),)", {(0, 1): 1}, {(0, 1)}, frozenset([(0, 1)]),
        iter(((0, 1),)), zip((0,), (1,)), ((0, 1) for _ in range(1)),
    ]


def no_stretch_within():
    bad = [
        (), (0,), (0, 1, 2), (0, 1, 2, 3), [0, 1], [], {0: 1, 1: 2}, {0, 1}, range(2), range(0, 2), "01", "ab", b"01",
        None, 0, 5, True, ((0, 1),), ((0, 1), (2, 3)), object(), Thorny(), Seeming(), iter((0, 1)),
    ]
    return in_each_seat(bad) + [(0, 1), (5, 9), ((((0, 1),),),)]


def wrong_numbers():
    bad = [(0, 0), (1, 0), (4, 4), (5, 4), (9, 2), (-1, -1), (-1, -2), (BIG, BIG), (BIG, BIG - 1), (1, -1)]
    for thing in no_wholes():
        bad += [(thing, 5), (0, thing), (thing, thing)]
    return in_each_seat(bad)


def in_each_seat(bad):
    """Each bad stretch alone, and ahead of, between and behind good ones."""
    works = []
    for stretch in bad:
        works += [
            (stretch,), (stretch, (20, 21)), ((-20, -10), stretch), ((-20, -10), stretch, (20, 21)),
            ((-20, -15), (-15, -10), stretch),
        ]
    return works


def out_of_order():
    return [
        ((0, 2), (1, 3)), ((0, 2), (0, 2)), ((0, 5), (1, 2)), ((0, 5), (4, 6)), ((3, 4), (0, 1)), ((3, 4), (2, 3)),
        ((0, 1), (5, 6), (3, 4)), ((0, 1), (2, 5), (4, 6)), ((5, 6), (0, 1), (2, 3)), ((0, 1), (2, 3), (-2, -1)),
        ((0, 9), (9, 12), (8, 13)), ((-3, -1), (-2, 0)), ((-1, 1), (-3, -2)), ((BIG, BIG + 2), (BIG + 1, BIG + 3)),
        ((0, 1), (2, 3), (2, 3)), ((-5, 5), (-5, 5)), ((0, 1), (2, 4), (3, 4)),
    ]


def all_works(low, high):
    """Every work whose places lie from low up to ahead of high."""
    works = [()]
    for start in range(low, high):
        for end in range(start + 1, high + 1):
            works += [((start, end),) + later for later in all_works(end, high)]
    return works


def places_of(work):
    return {place for low, high in work for place in range(low, high)}


def short_of(places):
    """The short form, told place by place."""
    lows = sorted(place for place in places if place - 1 not in places)
    highs = sorted(place + 1 for place in places if place + 1 not in places)
    return tuple(zip(lows, highs))


def refused(case, kind, deed, *handed):
    """The deed is refused by an error of just this class."""
    with case.assertRaises(LentError) as caught:
        deed(*handed)
    case.assertIs(type(caught.exception), kind)


def in_short_time(case, deed, seconds=10):
    start = time.process_time()
    told = deed()
    case.assertLess(time.process_time() - start, seconds)
    return told


def assert_tuples_of_wholes(case, thing):
    """A tuple through and through, whose innermost parts are whole numbers."""
    if type(thing) is not int:
        case.assertIs(type(thing), tuple)
        for part in thing:
            assert_tuples_of_wholes(case, part)


def no_numbers():
    """Things that are no tuple of whole numbers, anew each time."""
    tuples = [(thing,) for thing in no_wholes()]
    tuples += [(1, thing) for thing in no_wholes()] + [(1, thing, 2) for thing in no_wholes()]
    others = [thing for thing in no_wholes() if not isinstance(thing, tuple)]
    return tuples + others + [
        0, 1, 5, [1, 2], [], {1: 2}, {1, 2}, range(3), range(0), "12", "", b"12", iter((1, 2)), ((1,),), ((),),
        (1, (2,)), (number for number in (1, 2)), zip((1,), (2,)),
    ]


def no_texts():
    """Things that are no text, anew each time."""
    return [thing for thing in no_wholes() if not isinstance(thing, str)] + [0, 1, -1, BIG, ["a"], ("a",), b"ann"]


def no_workers():
    """Things that are no worker, anew each time."""
    return no_texts() + [
        "", " ", "abcdefghi", "abcdefghijklmnop", "A", "Ann", "anN", "ANN", "a1", "1", "0", "a b", " a", "a ", "a\n",
        "\n", "a-b", "a_b", "_", "-", "`", "{", "a{", "`a", "@", "[", "a.", "caf\u00e9", "\u00e9", "\u00df", "\u03b1",
    ]


def seen(book):
    """All that a book tells."""
    return (book.pieces(), book.moment_now(), book.bounds(), book.all_results(), book.left_work())


def done(book, deed):
    """A deed is a tuple of a name and what is handed in; told is (its refusal or None, what it tells)."""
    try:
        return (None, getattr(book, deed[0])(*deed[1:]))
    except LentError as refusal:
        return (type(refusal), None)


def told_by(house):
    """All that a house tells, and a book with it."""
    return (house.pieces(), house.moment_now(), house.all_results(), house.left_work())


def line_of(deed, told):
    """The line of a deed that was done and told this; None where nothing was lent."""
    if deed[0] == "lend":
        return None if told is None else ("lent", deed[2], deed[1], told[0], told[1])
    if deed[0] == "tell":
        return ("told", deed[4], deed[1], deed[2], deed[3])
    return ("back", deed[2], deed[1]) if deed[0] == "give_back" else deed


def runs_of(laid):
    """The results of a dict, told place by place."""
    return [(low, tuple(laid[place] for place in range(low, high))) for low, high in short_of(set(laid))]


class PlainBook:
    """The book of points 7 to 14, kept place by place: marks are counted, not kept. do() tells as done() does."""

    def __init__(self, work, span, every, least):
        self.handed = (work, span, every, least)
        self.owner = {place: seat for seat, (low, high) in enumerate(work) for place in range(low, high)}
        self.result = {}
        self.lendings = {}
        self.pieces_made = len(work)
        self.tokens = 0
        self.moment = 0

    def piece(self, number):
        row = sorted(place for place in self.owner if self.owner[place] == number)
        mark = row[0] + sum(place in self.result for place in row)
        return (number, row[0], row[-1] + 1, mark, self.lendings.get(number))

    def pieces(self):
        return sorted((self.piece(number) for number in set(self.owner.values())), key=lambda piece: piece[1])

    def seen(self):
        left = short_of(set(self.owner) - set(self.result))
        return (self.pieces(), self.moment, self.handed, runs_of(self.result), left)

    def holder(self, token):
        return next((number for number in self.lendings if self.lendings[number][0] == token), None)

    def widest(self, wanted):
        found = [(mark - high, low, number) for number, low, high, mark, lending in self.pieces()
                 if mark < high and wanted(lending)]
        return min(found)[2] if found else None

    def choice(self, moment):
        free = self.widest(lambda lending: lending is None)
        late = self.widest(lambda lending: lending is not None and lending[2] < moment)
        lent = self.widest(lambda lending: lending is not None)
        if free is not None or late is not None:
            return ("piece", late if free is None else free)
        if lent is None:
            return None
        number, low, high, mark, lending = self.piece(lent)
        return ("cut", number, high - (high - mark) // 2) if high - mark >= 2 * self.handed[3] else None

    def refusal(self, name, *handed):
        if name in ("cut", "join"):
            return self.refused_shape(name, *handed)
        if handed[-1] < self.moment:
            return BadMoment
        if name in ("lend", "choice"):
            return None
        token = handed[0]
        if not 0 <= token < self.tokens:
            return NoLending
        if self.holder(token) is None:
            return Lost
        return self.refused_telling(*handed[:3]) if name == "tell" else None

    def refused_telling(self, token, place, numbers):
        number, low, high, mark, lending = self.piece(self.holder(token))
        if not low <= place <= mark or place + len(numbers) - mark > self.handed[2]:
            return BadTelling
        told = dict(enumerate(numbers, start=place))
        return Otherwise if any(told.get(at, self.result[at]) != self.result[at] for at in range(low, mark)) else None

    def refused_shape(self, name, number, place=None):
        if number not in self.owner.values():
            return NoPiece
        number, low, high, mark, lending = self.piece(number)
        if name == "cut":
            first = mark + (self.handed[2] if lending else 1)
            return None if first <= place < high else BadCut
        beside = self.owner.get(high)
        return None if beside is not None and self.is_new(beside, high) else BadJoin

    def is_new(self, number, at):
        return number not in self.lendings and self.piece(number)[1] == at and at not in self.result

    def do(self, deed):
        kind = self.refusal(*deed)
        return (kind, None) if kind else (None, getattr(self, "do_" + deed[0])(*deed[1:]))

    def do_choice(self, moment):
        return self.choice(moment)

    def do_lend(self, worker, moment):
        chosen = self.choice(moment)
        if chosen is None:
            return None
        number = chosen[1]
        if chosen[0] == "cut":
            self.do_cut(number, chosen[2])
            number = self.pieces_made - 1
        self.moment = moment
        self.lendings[number] = (self.tokens, worker, moment + self.handed[1])
        self.tokens += 1
        return (self.tokens - 1, number, self.piece(number)[3], self.piece(number)[2], moment + self.handed[1])

    def do_tell(self, token, place, numbers, moment):
        number = self.holder(token)
        for at, told in enumerate(numbers, start=place):
            if self.owner.get(at) == number:
                self.result[at] = told
        self.moment = moment
        self.lendings[number] = (token, self.lendings[number][1], moment + self.handed[1])
        number, low, high, mark, lending = self.piece(number)
        if mark == high:
            self.lendings.pop(number)
        return (mark, high, None if mark == high else lending[2])

    def do_give_back(self, token, moment):
        self.lendings.pop(self.holder(token))
        self.moment = moment

    def do_cut(self, number, place):
        for at in range(place, self.piece(number)[2]):
            self.owner[at] = self.pieces_made
        self.pieces_made += 1

    def do_join(self, number):
        high = self.piece(number)[2]
        for at in range(high, self.piece(self.owner[high])[2]):
            self.owner[at] = number


BOOKS = (
    (((0, 30),), 4, 1, 1), (((0, 40),), 3, 3, 5), (((-5, 5), (5, 12), (20, 26)), 2, 2, 2),
    (((0, 3), (3, 6), (6, 9), (9, 12), (14, 15)), 5, 4, 4), (((-20, 20),), 1, 7, 7), (((0, 9),), 6, 1, 30),
)


def numbers_for(plain, token, place, count):
    """What is known already, told again, and then numbers that no other lending tells."""
    return tuple(plain.result.get(at, 100 * token + at) for at in range(place, place + count))


def next_deed(dice, plain):
    """Most are right ones; those of lost lendings, gone pieces, fallen moments and wrong numbers come too."""
    now = plain.moment + dice.choice((0, 0, 0, 0, 1, 1, 2, 9, -1))
    name = dice.choice(("lend", "lend", "tell", "tell", "tell", "tell", "tell", "give_back", "cut", "join"))
    if name == "lend":
        return (name, dice.choice("abc"), now)
    if name in ("cut", "join"):
        number = dice.randrange(plain.pieces_made + 1)
        place = dice.choice(sorted(plain.owner)) + dice.choice((0, 1))
        return (name, number, place) if name == "cut" else (name, number)
    held = [lending[0] for lending in plain.lendings.values()]
    token = dice.choice(held) if held and dice.randrange(5) else dice.randrange(-1, plain.tokens + 1)
    return (name, token, now) if name == "give_back" else next_telling(dice, plain, token, now)


def next_telling(dice, plain, token, now):
    holder = plain.holder(token)
    low, mark = plain.piece(holder)[1:4:2] if holder is not None else (0, 0)
    place = max(low, mark - dice.randrange(4)) if dice.randrange(9) else mark + dice.choice((-9, -1, 1))
    count = max(0, mark - place + dice.randrange(-1, plain.handed[2] + 1))
    numbers = numbers_for(plain, token, place, count + (not dice.randrange(9)))
    if numbers and not dice.randrange(12):
        numbers = (-1,) + numbers[1:]
    return ("tell", token, place, numbers, now)


class Asked:
    """A doing that keeps the places it was asked for, and tells another number each time."""

    def __init__(self):
        self.places = []

    def __call__(self, place):
        self.places.append(place)
        return 1000 * place + len(self.places)


def rows(count):
    """For each row the bounds of its book, and dice that fall alike each time."""
    return [(BOOKS[seed % len(BOOKS)], random.Random(seed)) for seed in range(count)]
