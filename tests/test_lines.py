import random
import unittest

from lentwork.books import Book
from lentwork.errors import (
    BadCut, BadJoin, BadLine, BadMoment, BadTelling, BadWorker, LentError, Lost, NoLending, NoPiece, Otherwise,
)
from lentwork.lines import do_line
from lentwork.texts import head_text, line_text, read_text
from tests.support import BIG, Thorny, no_wholes, no_workers, refused, seen


def some_book():
    """Lendings 0 (given back), 1 (lost), 2 (of piece 1) and 3 (of piece 0); moment 9; the next is a cut."""
    book = Book(((0, 12), (20, 30)), 3, 3, 4)
    book.lend("ann", 1)
    book.give_back(0, 1)
    book.lend("bob", 2)
    book.tell(1, 0, (70, 71), 2)
    book.lend("cy", 7)
    book.tell(2, 20, (90, 91, 92), 9)
    book.lend("dan", 9)
    return book


class Done(unittest.TestCase):
    def beside(self, line, name, *handed):
        """The line does what the deed does."""
        one, other = some_book(), some_book()
        self.assertIsNone(do_line(one, line))
        getattr(other, name)(*handed)
        self.assertNotEqual(seen(one), seen(some_book()))
        self.assertEqual(seen(one), seen(other))
        return one

    def test_the_book(self):
        book = some_book()
        self.assertEqual(book.pieces(), [(0, 0, 12, 2, (3, "dan", 12)), (1, 20, 30, 23, (2, "cy", 12))])
        self.assertEqual((book.moment_now(), book.choice(9)), (9, ("cut", 0, 7)))

    def test_lent_with_a_cut(self):
        book = self.beside(("lent", 9, "eve", 4, 2), "lend", "eve", 9)
        self.assertEqual(book.pieces(), [
            (0, 0, 7, 2, (3, "dan", 12)), (2, 7, 12, 7, (4, "eve", 12)), (1, 20, 30, 23, (2, "cy", 12))])

    def test_lent_of_a_late_piece(self):
        book = self.beside(("lent", 13, "eve", 4, 0), "lend", "eve", 13)
        self.assertEqual(book.pieces()[0], (0, 0, 12, 2, (4, "eve", 16)))

    def test_lent_of_a_free_piece(self):
        book = Book(((0, 3), (5, 9)), 2, 1, 1)
        self.assertIsNone(do_line(book, ("lent", 0, "ann", 0, 1)))
        self.assertIsNone(do_line(book, ("lent", 5, "bob", 1, 0)))
        self.assertEqual(book.pieces(), [(0, 0, 3, 0, (1, "bob", 7)), (1, 5, 9, 5, (0, "ann", 2))])

    def test_told(self):
        book = self.beside(("told", 10, 3, 1, (71, 72, 73)), "tell", 3, 1, (71, 72, 73), 10)
        self.assertEqual(book.pieces()[0], (0, 0, 12, 4, (3, "dan", 13)))
        self.assertEqual(book.all_results(), [(0, (70, 71, 72, 73)), (20, (90, 91, 92))])
        self.beside(("told", 10, 2, 23, ()), "tell", 2, 23, (), 10)

    def test_back(self):
        book = self.beside(("back", 9, 3), "give_back", 3, 9)
        self.assertEqual(book.pieces()[0], (0, 0, 12, 2, None))
        self.assertEqual(self.beside(("back", 11, 2), "give_back", 2, 11).moment_now(), 11)

    def test_cut(self):
        book = self.beside(("cut", 1, 27), "cut", 1, 27)
        self.assertEqual(book.pieces()[1:], [(1, 20, 27, 23, (2, "cy", 12)), (2, 27, 30, 27, None)])

    def test_join(self):
        book = Book(((0, 3), (3, 9)), 2, 1, 1)
        self.assertIsNone(do_line(book, ("join", 0)))
        self.assertEqual(book.pieces(), [(0, 0, 9, 0, None)])

    def test_a_row_of_lines(self):
        book = Book(((0, 6),), 2, 2, 3)
        for line in (
                ("lent", 1, "ann", 0, 0), ("lent", 1, "bob", 1, 1), ("told", 2, 0, 0, (5, 6)), ("back", 3, 1),
                ("told", 3, 0, 2, (7, 8)), ("join", 0), ("cut", 0, 4), ("lent", 3, "cy", 2, 2),
                ("told", 4, 2, 4, (9, 10))):
            self.assertIsNone(do_line(book, line), line)
        self.assertEqual(seen(book), (
            [(0, 0, 4, 3, None), (2, 4, 6, 6, None)], 4, (((0, 6),), 2, 2, 3), [(0, (5, 6, 7)), (4, (9, 10))],
            ((3, 4),)))


class Refused(unittest.TestCase):
    def setUp(self):
        self.book = some_book()
        self.before = seen(self.book)

    def refuse(self, kind, line):
        refused(self, kind, do_line, self.book, line)
        self.assertEqual(seen(self.book), self.before)


class NoLines(Refused):
    RIGHT = (
        ("lent", 9, "eve", 4, 2), ("told", 9, 3, 2, (72,)), ("back", 9, 3), ("cut", 0, 7), ("join", 0),
    )

    def test_things_of_other_kinds(self):
        for seat, thing in enumerate(no_wholes() + [0, 5, "lent", "join", "cut 0 7", "join 0", ["join", 0]]):
            with self.subTest(seat):
                self.refuse(BadLine, thing)
        for line in self.RIGHT:
            self.refuse(BadLine, list(line))
            self.refuse(BadLine, {part: part for part in line if not isinstance(part, list)})

    def test_too_few_and_too_many_parts(self):
        for line in self.RIGHT:
            for count in range(1, len(line)):
                self.refuse(BadLine, line[:count])
            for more in ((0,), (None,), ((),), (0, 0), (1, 2, 3)):
                self.refuse(BadLine, line + more)

    def test_numbers_are_one_part(self):
        self.refuse(BadLine, ("told", 9, 3, 2, 72, 73))
        self.refuse(BadLine, ("told", 9, 3, 2))

    def test_other_words(self):
        for word in ("", "Lent", "LENT", "lend", "tell", "give_back", "give", "cuts", "joined", " join", "join ",
                     "lent\n", "head", "work", "book", "choice", "pieces", "j", "bac"):
            for line in self.RIGHT:
                self.refuse(BadLine, (word,) + line[1:])

    def test_first_parts_that_are_no_texts(self):
        for seat, thing in enumerate(no_wholes() + [0, 1, Thorny()]):
            if not isinstance(thing, str):
                with self.subTest(seat):
                    for line in self.RIGHT:
                        self.refuse(BadLine, (thing,) + line[1:])

    def test_the_words_count_is_asked_ahead_of_the_deed(self):
        self.refuse(BadLine, ("lent", -1, "Eve", 4))
        self.refuse(BadLine, ("told", -1, None, None))
        self.refuse(BadLine, ("back", -1))
        self.refuse(BadLine, ("cut", None))
        self.refuse(BadLine, ("join",))
        self.refuse(BadLine, ())
        self.refuse(BadLine, ((),))


class RefusedDeeds(Refused):
    def test_lent(self):
        for seat, thing in enumerate(no_workers()):
            with self.subTest(seat):
                self.refuse(BadWorker, ("lent", 9, thing, 4, 2))
                self.refuse(BadWorker, ("lent", 3, thing, 7, 7))
        for seat, thing in enumerate(no_wholes() + [8, 0, -1, -BIG]):
            with self.subTest(seat):
                self.refuse(BadMoment, ("lent", thing, "eve", 4, 2))
                self.refuse(BadMoment, ("lent", thing, "eve", 77, None))

    def test_told(self):
        for seat, thing in enumerate(no_wholes()):
            with self.subTest(seat):
                self.refuse(BadMoment, ("told", thing, thing, thing, thing))
                self.refuse(NoLending, ("told", 9, thing, thing, thing))
                self.refuse(BadTelling, ("told", 9, 3, thing, thing))
        self.refuse(BadMoment, ("told", 8, 3, 2, (72,)))
        self.refuse(NoLending, ("told", 9, 4, 2, (72,)))
        self.refuse(Lost, ("told", 9, 1, 2, (72,)))
        self.refuse(Lost, ("told", 9, 0, None, (72,)))
        self.refuse(BadTelling, ("told", 9, 3, 3, (72,)))
        self.refuse(BadTelling, ("told", 9, 3, 2, [72]))
        self.refuse(BadTelling, ("told", 9, 3, 2, 72))
        self.refuse(BadTelling, ("told", 9, 3, 2, (72, 73, 74, 75)))
        self.refuse(Otherwise, ("told", 9, 3, 1, (72, 72)))

    def test_back(self):
        self.refuse(BadMoment, ("back", 8, 3))
        self.refuse(BadMoment, ("back", True, 3))
        self.refuse(NoLending, ("back", 9, 4))
        self.refuse(NoLending, ("back", 9, True))
        self.refuse(Lost, ("back", 9, 0))
        self.refuse(Lost, ("back", 9, 1))

    def test_cut_and_join(self):
        for seat, thing in enumerate(no_wholes() + [2, -1, BIG]):
            with self.subTest(seat):
                self.refuse(NoPiece, ("cut", thing, 7))
                self.refuse(NoPiece, ("join", thing))
        for thing in (2, 4, 12, 13, None, True, 7.0):
            self.refuse(BadCut, ("cut", 0, thing))
        self.refuse(BadJoin, ("join", 0))
        self.refuse(BadJoin, ("join", 1))


class AnotherLending(Refused):
    """Lent lines whose token or number is another than comes, or where none comes."""

    def test_another_token_or_number(self):
        for token, number in ((3, 2), (5, 2), (0, 2), (-4, 2), (4, 0), (4, 1), (4, 3), (4, -2), (2, 4), (5, 3)):
            self.refuse(BadLine, ("lent", 9, "eve", token, number))
        for token, number in ((4, 2), (4, 1), (3, 0), (5, 0)):
            self.refuse(BadLine, ("lent", 13, "eve", token, number))
        do_line(self.book, ("lent", 9, "eve", 4, 2))

    def test_things_of_other_kinds(self):
        for seat, thing in enumerate(no_wholes() + [4.0, 2.0, "4", "2", (4,), Thorny()]):
            with self.subTest(seat):
                self.refuse(BadLine, ("lent", 9, "eve", thing, 2))
                self.refuse(BadLine, ("lent", 9, "eve", 4, thing))
                self.refuse(BadLine, ("lent", 9, "eve", thing, thing))

    def test_truths_are_no_numbers(self):
        book = Book(((0, 2), (5, 9), (20, 23)), 2, 1, 1)
        for token, number in ((False, 1), (0, True), (False, True), (0.0, 1), (0, 1.0)):
            refused(self, BadLine, do_line, book, ("lent", 0, "ann", token, number))
        do_line(book, ("lent", 0, "ann", 0, 1))
        for token, number in ((True, 2), (1.0, 2), (1, 2.0)):
            refused(self, BadLine, do_line, book, ("lent", 0, "ann", token, number))
        do_line(book, ("lent", 0, "ann", 1, 2))
        refused(self, BadLine, do_line, book, ("lent", 0, "ann", 2, False))
        do_line(book, ("lent", 0, "ann", 2, 0))

    def test_where_the_choice_is_none(self):
        for book in (Book((), 2, 1, 1), Book(((0, 3),), 2, 1, 2)):
            book.lend("ann", 1)
            before = seen(book)
            for token in (0, 1, None):
                for number in (0, 1, None):
                    refused(self, BadLine, do_line, book, ("lent", 3, "bob", token, number))
                    self.assertEqual(seen(book), before)
            refused(self, BadWorker, do_line, book, ("lent", 3, "Bob", 1, 0))
            refused(self, BadMoment, do_line, book, ("lent", -1, "bob", 1, 0))

    def test_a_refused_line_uses_up_nothing(self):
        self.refuse(BadLine, ("lent", 50, "eve", 5, 2))
        self.refuse(BadLine, ("lent", 50, "eve", 4, 3))
        self.assertEqual(self.book.lend("eve", 9), (4, 2, 7, 12, 12))


class Rows(unittest.TestCase):
    """A book on which lines are done is as the one on which their deeds are done."""

    def lines(self, dice, book):
        """Some lines that may come next, with the deeds that they tell."""
        now = book.moment_now() + dice.choice((0, 0, 1, 4))
        told = []
        for number, low, high, mark, lending in book.pieces():
            place = dice.randrange(mark, high + 1)
            told += [(("cut", number, place), "cut", number, place), (("join", number), "join", number)]
            if lending is not None:
                token, numbers = lending[0], tuple(range(mark, mark + dice.randrange(4)))
                told += [(("told", now, token, mark, numbers), "tell", token, mark, numbers, now)] * 6
                told += [(("back", now, token), "give_back", token, now)]
        return told

    def lent(self, book, other, worker, moment):
        answer = other.lend(worker, moment)
        if answer is None:
            return refused(self, BadLine, do_line, book, ("lent", moment, worker, 0, 0))
        line = ("lent", moment, worker) + answer[:2]
        self.assertIsNone(do_line(book, line))
        return line

    def step(self, dice, book, other):
        """Does a deed on one book and its line on the other; tells the line, or None where it was refused."""
        if not dice.randrange(4):
            return self.lent(book, other, dice.choice(("ann", "bob")), book.moment_now() + dice.choice((0, 1, 4)))
        line, name, *handed = dice.choice(self.lines(dice, other))
        try:
            getattr(other, name)(*handed)
        except LentError as refusal:
            return refused(self, type(refusal), do_line, book, line)
        self.assertIsNone(do_line(book, line))
        return line

    def test_lines_beside_deeds(self):
        for seed in range(40):
            dice = random.Random(seed)
            book, other = [Book(((0, 14), (14, 20), (30, 37)), 3, 3, 3) for _ in range(2)]
            for _ in range(60):
                self.step(dice, book, other)
                self.assertEqual(seen(book), seen(other))

    def test_a_book_comes_again_from_its_text(self):
        for seed in range(40):
            dice = random.Random(seed)
            book, other = [Book(((-9, 5), (5, 11), (21, 28)), 3, 3, 3) for _ in range(2)]
            lines = [self.step(dice, book, other) for _ in range(60)]
            text = head_text(*book.bounds()) + "".join([line_text(line) for line in lines if line is not None])
            told = read_text(text)
            again = Book(*told[:4])
            for line in told[4]:
                do_line(again, line)
            self.assertEqual(seen(again), seen(book))
            self.assertEqual(again.lend("eve", 1000), book.lend("eve", 1000))


if __name__ == "__main__":
    unittest.main()
