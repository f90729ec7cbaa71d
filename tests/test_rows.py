"""Rows of deeds, done on a book and beside it place by place; what the promise says of every row."""

import copy
import unittest

from lentwork.books import Book
from lentwork.errors import BadCut, BadJoin, BadMoment, BadTelling, Lost, NoLending, NoPiece, Otherwise
from tests.support import PlainBook, done, next_deed, numbers_for, places_of, rows, seen


def small_deeds(plain):
    """All deeds within reach of a small book, right ones and wrong ones."""
    work, span, every, least = plain.handed
    now, late = plain.moment, plain.moment + span + 1
    places = range(work[0][0] - 1, work[-1][1] + 2)
    deeds = [(name, *handed) for name, handed in (
        ("choice", (now - 1,)), ("choice", (now,)), ("choice", (now + span,)), ("choice", (late,)),
        ("lend", ("a", now - 1)), ("lend", ("a", now)), ("lend", ("b", late)))]
    for number in range(-1, plain.pieces_made + 1):
        deeds += [("join", number)] + [("cut", number, place) for place in places]
    for token in range(-1, plain.tokens + 1):
        deeds += [("give_back", token, now - 1), ("give_back", token, now)]
        for place in places:
            for count in range(every + 2):
                numbers = numbers_for(plain, token, place, count)
                deeds += [("tell", token, place, numbers, now)]
                if numbers and place in plain.result:
                    deeds += [("tell", token, place, (-1,) + numbers[1:], now)]
    return deeds


class EverySmallRow(unittest.TestCase):
    def at(self, plain, row):
        """A new book on which the row was done."""
        book = Book(*plain.handed)
        for deed in row:
            done(book, deed)
        self.assertEqual(seen(book), plain.seen(), row)
        return book

    def steps(self, plain, row):
        """Does each small deed; tells those that changed the book, with what came of it."""
        book, right, changed = self.at(plain, row), plain.seen(), []
        for deed in small_deeds(plain):
            after = copy.deepcopy(plain)
            answer = after.do(deed)
            self.assertEqual(done(book, deed), answer, (row, deed))
            if after.__dict__ != plain.__dict__:
                changed.append((after, row + [deed]))
                self.assertEqual(seen(book), after.seen(), (row, deed))
                book = self.at(plain, row)
            else:
                self.assertEqual(seen(book), right, (row, deed))
        return changed

    def walk(self, work, span, every, least, depth):
        plain = PlainBook(work, span, every, least)
        edge, known = [(plain, [])], [plain.__dict__]
        for _ in range(depth):
            fresh = []
            for plain, row in edge:
                for after, longer in self.steps(plain, row):
                    if after.__dict__ not in known:
                        known.append(after.__dict__)
                        fresh.append((after, longer))
            edge = fresh

    def test_one_piece_told_one_by_one(self):
        self.walk(((0, 3),), 1, 1, 1, 5)

    def test_one_piece_told_two_by_two(self):
        self.walk(((-1, 3),), 2, 2, 2, 4)

    def test_two_pieces_that_touch(self):
        self.walk(((0, 2), (2, 3)), 1, 1, 1, 4)

    def test_two_pieces_that_do_not(self):
        self.walk(((-1, 1), (2, 4)), 1, 2, 2, 3)


# The rows are worth something only where each deed and each of its refusals comes up in them.
ALL_MET = {
    ("lend", None), ("lend", BadMoment), ("tell", None), ("tell", BadMoment), ("tell", NoLending), ("tell", Lost),
    ("tell", BadTelling), ("tell", Otherwise), ("give_back", None), ("give_back", BadMoment),
    ("give_back", NoLending), ("give_back", Lost), ("cut", None), ("cut", NoPiece), ("cut", BadCut), ("join", None),
    ("join", NoPiece), ("join", BadJoin),
}


class LongRows(unittest.TestCase):
    def test_beside_the_plain_book(self):
        met = set()
        for bounds, dice in rows(60):
            book, plain = Book(*bounds), PlainBook(*bounds)
            for _ in range(80):
                deed = next_deed(dice, plain)
                answer = plain.do(deed)
                met.add((deed[0], answer[0]))
                self.assertEqual(done(book, deed), answer, deed)
                self.assertEqual(seen(book), plain.seen(), deed)
                moment = plain.moment + dice.randrange(8)
                self.assertEqual(book.choice(moment), plain.choice(moment))
        self.assertEqual(met, ALL_MET)

    def test_without_the_refused_deeds_both_end_alike(self):
        for bounds, dice in rows(60):
            book, other, plain = Book(*bounds), Book(*bounds), PlainBook(*bounds)
            refused = 0
            for _ in range(80):
                deed = next_deed(dice, plain)
                kind = done(book, deed)[0]
                self.assertEqual(kind, plain.do(deed)[0])
                refused += kind is not None
                if kind is None:
                    self.assertEqual(done(other, deed)[0], None)
            self.assertGreater(refused, 5)
            self.assertEqual(seen(book), seen(other))
            # Also what they don't tell, the next token and the next number, is alike.
            for _ in range(40):
                deed = next_deed(dice, plain)
                self.assertEqual(done(book, deed), done(other, deed))
                plain.do(deed)
            self.assertEqual(seen(book), seen(other))

    def test_deeds_done_twice_have_the_same_answers(self):
        for bounds, dice in rows(12):
            plain, row = PlainBook(*bounds), []
            for _ in range(80):
                row.append(next_deed(dice, plain))
                plain.do(row[-1])
            books = [Book(*bounds), Book(*bounds)]
            self.assertEqual(*[[done(book, deed) for deed in row] for book in books])
            self.assertEqual(*[seen(book) for book in books])


class Promised(unittest.TestCase):
    """Once, and from the mark: looked at from what the book tells alone."""

    def results(self, book):
        return {at: number for low, numbers in book.all_results() for at, number in enumerate(numbers, start=low)}

    def check_shape(self, book):
        pieces, places = book.pieces(), set()
        for number, low, high, mark, lending in pieces:
            self.assertTrue(low <= mark <= high and low < high)
            self.assertTrue(mark < high or lending is None)
            self.assertTrue(places.isdisjoint(range(low, high)))
            places |= set(range(low, high))
        self.assertEqual(places, places_of(book.bounds()[0]))
        ahead = {at for number, low, high, mark, lending in pieces for at in range(low, mark)}
        self.assertEqual(ahead, set(self.results(book)))
        self.assertEqual(places - ahead, places_of(book.left_work()))
        self.assertEqual(len({piece[0] for piece in pieces}), len(pieces))
        tokens = [piece[4][0] for piece in pieces if piece[4] is not None]
        self.assertEqual(len(set(tokens)), len(tokens))

    def check_step(self, deed, answer, old, new, before):
        """Old results stay; new ones are what a telling told of its own piece from the mark on, and nothing else."""
        self.assertEqual({at: new[at] for at in old if at in new}, old)
        fresh = {at: new[at] for at in new if at not in old}
        told = {}
        if deed[0] == "tell" and answer[0] is None:
            piece = [piece for piece in before if piece[4] is not None and piece[4][0] == deed[1]][0]
            told = {at: number for at, number in enumerate(deed[3], start=deed[2]) if piece[3] <= at < piece[2]}
        self.assertEqual(fresh, told, deed)

    def test_once_and_from_the_mark(self):
        for bounds, dice in rows(60):
            book, plain, old = Book(*bounds), PlainBook(*bounds), {}
            for _ in range(80):
                deed = next_deed(dice, plain)
                before = book.pieces()
                answer = done(book, deed)
                plain.do(deed)
                self.check_shape(book)
                self.check_step(deed, answer, old, self.results(book), before)
                old = self.results(book)
                if deed[0] == "lend" and answer[1] is not None:
                    number, mark = answer[1][1:3]
                    self.assertIn((number, mark), [(piece[0], piece[3]) for piece in book.pieces()])

    def test_where_all_is_done_each_place_has_its_result(self):
        for bounds, dice in rows(24):
            book, plain = Book(*bounds), PlainBook(*bounds)
            for _ in range(80):
                deed = next_deed(dice, plain)
                if deed[0] == "tell":
                    deed = deed[:3] + (tuple(at * at for at in range(deed[2], deed[2] + len(deed[3]))),) + deed[4:]
                self.assertEqual(done(book, deed), plain.do(deed))
            moment = book.moment_now()
            while book.left_work():
                moment += bounds[1] + 1
                token, number, mark, high, until = book.lend("z", moment)
                while until is not None:
                    mark, high, until = book.tell(token, mark, (mark * mark,), moment)
            self.assertEqual(self.results(book), {at: at * at for at in places_of(bounds[0])})
            self.assertTrue(all(piece[3] == piece[2] and piece[4] is None for piece in book.pieces()))


if __name__ == "__main__":
    unittest.main()
