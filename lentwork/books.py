"""Books: pieces of work that are lent for a time, told, given back, cut and joined."""

from lentwork.errors import (
    BadBound, BadCut, BadJoin, BadMoment, BadTelling, BadWorker, Lost, NoLending, NoPiece, Otherwise,
)
from lentwork.pieces import Piece
from lentwork.sheets import Sheet, is_numbers
from lentwork.stretches import check_work, is_whole


def check_bounds(span, every, least):
    for bound in (span, every, least):
        if not is_whole(bound) or bound < 1:
            raise BadBound("span, every and least are whole numbers from 1 on")
    if least < every:
        raise BadBound("least is a whole number from every on")


def is_worker(thing):
    if not isinstance(thing, str) or not 1 <= len(thing) <= 8:
        return False
    # Python's own question for small letters also takes those of other scripts.
    return all(["a" <= sign <= "z" for sign in thing])


def check_worker(worker):
    if not is_worker(worker):
        raise BadWorker("a worker is a text of one to eight small letters")


def greatest(pieces):
    return min(pieces, key=lambda piece: (-piece.rest(), piece.low))


class Book:
    def __init__(self, work, span, every, least):
        check_work(work)
        check_bounds(span, every, least)
        self.work = work
        self.span = span
        self.every = every
        self.least = least
        self.sheet = Sheet(work)
        self.by_number = {}
        self.next_number = 0
        self.next_token = 0
        self.moment = 0
        for low, high in work:
            self.new_piece(low, high)

    def choice(self, moment):
        self.check_moment(moment)
        free = [piece for piece in self.by_number.values() if piece.is_free()]
        if free:
            return ("piece", greatest(free).number)
        lent = [piece for piece in self.by_number.values() if piece.is_lent()]
        late = [piece for piece in lent if piece.is_late(moment)]
        if late:
            return ("piece", greatest(late).number)
        if lent and greatest(lent).rest() >= 2 * self.least:
            piece = greatest(lent)
            return ("cut", piece.number, piece.high - piece.rest() // 2)
        return None

    def lend(self, worker, moment):
        check_worker(worker)
        # The choice refuses the moment.
        chosen = self.choice(moment)
        if chosen is None:
            return None
        piece = self.piece_with(chosen[1])
        if chosen[0] == "cut":
            piece = self.cut_off(piece, chosen[2])
        token = self.next_token
        until = moment + self.span
        piece.lending = (token, worker, until)
        self.next_token = token + 1
        self.moment = moment
        return (token, piece.number, piece.mark, piece.high, until)

    def tell(self, token, place, numbers, moment):
        piece = self.piece_to_tell(token, place, numbers, moment)
        fresh = numbers[piece.mark - place:piece.high - place]
        self.sheet.lay(piece.mark, fresh)
        piece.mark += len(fresh)
        self.moment = moment
        if piece.is_done():
            piece.lending = None
            return (piece.mark, piece.high, None)
        until = moment + self.span
        piece.lending = (token, piece.lending[1], until)
        return (piece.mark, piece.high, until)

    def give_back(self, token, moment):
        piece = self.held_piece(token, moment)
        piece.lending = None
        self.moment = moment

    def cut(self, number, place):
        self.cut_off(self.piece_to_cut(number, place), place)

    def join(self, number):
        piece = self.piece_to_join(number)
        other = self.piece_from(piece.high)
        piece.high = other.high
        self.by_number.pop(other.number)

    def pieces(self):
        return [piece.shown() for piece in sorted(self.by_number.values(), key=lambda piece: piece.low)]

    def moment_now(self):
        return self.moment

    def bounds(self):
        return (self.work, self.span, self.every, self.least)

    def all_results(self):
        return self.sheet.all_results()

    def left_work(self):
        return self.sheet.left_work()

    def coming(self, moment):
        # The token and the number that a lending at this moment bears, told ahead of it.
        chosen = self.choice(moment)
        if chosen is None:
            return None
        if chosen[0] == "cut":
            return (self.next_token, self.next_number)
        return (self.next_token, chosen[1])

    # Each deed looks at all that may refuse it ahead of its first change: what is refused changes nothing.

    def check_moment(self, moment):
        if not is_whole(moment) or moment < self.moment:
            raise BadMoment("a moment is a whole number, and none falls back")

    def held_piece(self, token, moment):
        self.check_moment(moment)
        if not is_whole(token) or not 0 <= token < self.next_token:
            raise NoLending("no such token was given")
        for piece in self.by_number.values():
            if piece.has_token(token):
                return piece
        raise Lost("no piece has this lending now")

    def piece_to_tell(self, token, place, numbers, moment):
        piece = self.held_piece(token, moment)
        if not is_whole(place) or not piece.low <= place <= piece.mark:
            raise BadTelling("a telling begins at a place from the piece's low up to its mark")
        if not is_numbers(numbers):
            raise BadTelling("what is told is a tuple of whole numbers")
        if place + len(numbers) > piece.mark + self.every:
            raise BadTelling("a telling goes no further than every behind the mark")
        for at, number in enumerate(numbers, start=place):
            if at < piece.mark and number != self.sheet.result_at(at):
                raise Otherwise("a place ahead of the mark has another result")
        return piece

    def piece_to_cut(self, number, place):
        piece = self.piece_with(number)
        if not is_whole(place) or not piece.mark < place < piece.high:
            raise BadCut("a piece is cut at a place above its mark and below its high")
        # What the worker may be about to tell stays its own.
        if piece.is_lent() and place < piece.mark + self.every:
            raise BadCut("a lent piece is cut no nearer than every behind its mark")
        return piece

    def piece_to_join(self, number):
        piece = self.piece_with(number)
        other = self.piece_from(piece.high)
        if other is None or not other.is_untouched():
            raise BadJoin("a piece is joined with a free one at its high whose mark is its low")
        return piece

    def piece_with(self, number):
        # True and 1.0 would be found as 1 in a dict, and a list can't be looked up at all.
        if not is_whole(number) or number not in self.by_number:
            raise NoPiece("no piece has this number")
        return self.by_number[number]

    def piece_from(self, low):
        for piece in self.by_number.values():
            if piece.low == low:
                return piece
        return None

    def new_piece(self, low, high):
        piece = Piece(self.next_number, low, high)
        self.by_number[piece.number] = piece
        self.next_number += 1
        return piece

    def cut_off(self, piece, place):
        other = self.new_piece(place, piece.high)
        piece.high = place
        return other
