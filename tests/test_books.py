import unittest

from lentwork.books import Book
from lentwork.errors import BadBound, BadWork
from tests.support import (
    BIG, all_works, assert_tuples_of_wholes, in_short_time, no_wholes, no_works, places_of, refused, seen, short_of,
)


class Made(unittest.TestCase):
    def test_one_piece_for_each_stretch(self):
        for work in all_works(-2, 3):
            with self.subTest(work):
                book = Book(work, 3, 1, 2)
                self.assertEqual(
                    book.pieces(), [(seat, low, high, low, None) for seat, (low, high) in enumerate(work)])
                self.assertEqual(book.bounds(), (work, 3, 1, 2))
                self.assertEqual(book.moment_now(), 0)
                self.assertEqual(book.all_results(), [])
                self.assertEqual(book.left_work(), short_of(places_of(work)))

    def test_stretches_that_touch_are_pieces_of_their_own(self):
        book = Book(((0, 2), (2, 5), (7, 8)), 1, 1, 1)
        self.assertEqual(book.pieces(), [(0, 0, 2, 0, None), (1, 2, 5, 2, None), (2, 7, 8, 7, None)])
        self.assertEqual(book.left_work(), ((0, 5), (7, 8)))
        self.assertEqual(book.bounds(), (((0, 2), (2, 5), (7, 8)), 1, 1, 1))

    def test_no_lending_was_made(self):
        self.assertEqual(Book(((0, 2),), 4, 1, 1).lend("ann", 0), (0, 0, 0, 2, 4))

    def test_a_new_piece_has_the_next_number(self):
        book = Book(((0, 3), (5, 9)), 1, 1, 1)
        book.cut(1, 7)
        self.assertEqual([piece[0] for piece in book.pieces()], [0, 1, 2])

    def test_the_book_of_no_stretch(self):
        book = Book((), 1, 1, 1)
        self.assertEqual(seen(book), ([], 0, ((), 1, 1, 1), [], ()))
        self.assertIsNone(book.choice(0))
        self.assertIsNone(book.lend("ann", 5))
        self.assertEqual(book.moment_now(), 0)
        self.assertEqual(seen(book), ([], 0, ((), 1, 1, 1), [], ()))

    def test_places_and_bounds_of_eighteen_figures(self):
        work = ((-BIG, 3 - BIG), (BIG, BIG + 4))
        book = Book(work, BIG, BIG, BIG + 1)
        self.assertEqual(book.bounds(), (work, BIG, BIG, BIG + 1))
        self.assertEqual(book.pieces(), [(0, -BIG, 3 - BIG, -BIG, None), (1, BIG, BIG + 4, BIG, None)])
        self.assertEqual(book.lend("ann", BIG), (0, 1, BIG, BIG + 4, 2 * BIG))
        self.assertEqual(book.tell(0, BIG, (1, 2, 3, 4, 5), BIG + 1), (BIG + 4, BIG + 4, None))
        self.assertEqual(book.all_results(), [(BIG, (1, 2, 3, 4))])


class Refused(unittest.TestCase):
    def test_what_is_no_work(self):
        for seat, thing in enumerate(no_works()):
            with self.subTest(seat):
                refused(self, BadWork, Book, thing, 3, 1, 2)

    def test_bad_work_is_told_ahead_of_a_bad_bound(self):
        for seat, thing in enumerate(no_works()[::7]):
            with self.subTest(seat):
                refused(self, BadWork, Book, thing, 0, 0, 0)
                refused(self, BadWork, Book, thing, None, True, "1")
                refused(self, BadWork, Book, thing, 1, 2, 1)

    def test_bounds_that_are_no_whole_numbers(self):
        for seat, thing in enumerate(no_wholes()):
            with self.subTest(seat):
                refused(self, BadBound, Book, ((0, 9),), thing, 1, 2)
                refused(self, BadBound, Book, ((0, 9),), 3, thing, 2)
                refused(self, BadBound, Book, ((0, 9),), 3, 1, thing)
                refused(self, BadBound, Book, (), thing, thing, thing)

    def test_bounds_below_one(self):
        for number in (0, -1, -2, -BIG):
            with self.subTest(number):
                refused(self, BadBound, Book, ((0, 9),), number, 1, 2)
                refused(self, BadBound, Book, ((0, 9),), 3, number, 2)
                refused(self, BadBound, Book, ((0, 9),), 3, 1, number)
                refused(self, BadBound, Book, ((0, 9),), 3, number, number)

    def test_least_is_from_every_on(self):
        for every in range(1, 6):
            for least in range(1, 6):
                with self.subTest((every, least)):
                    if least < every:
                        refused(self, BadBound, Book, ((0, 9),), 1, every, least)
                        refused(self, BadBound, Book, ((0, 9),), 9, every, least)
                    else:
                        self.assertEqual(Book((), 1, every, least).bounds(), ((), 1, every, least))

    def test_span_is_held_to_no_other_bound(self):
        for span in (1, 2, 3, 9, BIG):
            self.assertEqual(Book((), span, 2, 2).bounds(), ((), span, 2, 2))


class Told(unittest.TestCase):
    """What a book tells, at each of the states that its pieces can have."""

    def setUp(self):
        self.work = ((0, 4), (4, 6), (10, 13), (20, 28))
        self.book = Book(self.work, 5, 2, 4)
        self.book.lend("ann", 1)
        self.book.lend("bob", 2)
        self.book.tell(0, 20, (70, 71), 3)
        self.book.tell(1, 0, (50, 51), 3)
        self.book.tell(1, 2, (52, 53), 4)
        self.book.lend("cy", 4)
        self.book.give_back(2, 5)
        self.book.cut(3, 25)

    def right(self):
        return (
            [(0, 0, 4, 4, None), (1, 4, 6, 4, None), (2, 10, 13, 10, None), (3, 20, 25, 22, (0, "ann", 8)),
             (4, 25, 28, 25, None)],
            5, (self.work, 5, 2, 4), [(0, (50, 51, 52, 53)), (20, (70, 71))], ((4, 6), (10, 13), (22, 28)))

    def test_all_of_it(self):
        self.assertEqual(seen(self.book), self.right())

    def test_telling_changes_nothing(self):
        for _ in range(3):
            self.book.choice(5)
            self.book.choice(50)
            self.assertEqual(seen(self.book), self.right())

    def test_the_work_is_told_as_it_was_handed_in(self):
        self.assertEqual(self.book.bounds()[0], ((0, 4), (4, 6), (10, 13), (20, 28)))

    def test_told_lists_are_the_askers_own(self):
        for name in ("pieces", "all_results"):
            with self.subTest(name):
                told = getattr(self.book, name)()
                self.assertIs(type(told), list)
                self.assertIsNot(getattr(self.book, name)(), told)
                told.append("more")
                told[0] = None
                told.reverse()
                self.assertEqual(seen(self.book), self.right())
                getattr(self.book, name)().clear()
                self.assertEqual(seen(self.book), self.right())

    def test_told_lists_do_not_change_later(self):
        pieces, results = self.book.pieces(), self.book.all_results()
        self.book.tell(0, 22, (72,), 6)
        self.book.join(3)
        self.assertEqual((pieces, results), (self.right()[0], self.right()[3]))
        self.assertEqual(self.book.pieces()[3], (3, 20, 28, 23, (0, "ann", 11)))

    def test_tuples_through_and_through(self):
        for piece in self.book.pieces():
            self.assertIs(type(piece), tuple)
            self.assertEqual(len(piece), 5)
            assert_tuples_of_wholes(self, piece[:4])
            if piece[4] is not None:
                self.assertIs(type(piece[4]), tuple)
                self.assertEqual([type(part) for part in piece[4]], [int, str, int])
        for row in self.book.all_results():
            assert_tuples_of_wholes(self, row)
        assert_tuples_of_wholes(self, self.book.bounds())
        assert_tuples_of_wholes(self, self.book.left_work())
        assert_tuples_of_wholes(self, self.book.moment_now())


class TwoBooks(unittest.TestCase):
    def test_books_of_one_work_know_nothing_of_one_another(self):
        work = ((0, 6), (8, 9))
        one, other = Book(work, 3, 2, 2), Book(work, 3, 2, 2)
        fresh = seen(Book(work, 3, 2, 2))
        one.lend("ann", 4)
        one.tell(0, 0, (1, 2), 5)
        one.cut(0, 4)
        self.assertEqual(seen(other), fresh)
        self.assertEqual(other.lend("bob", 0), (0, 0, 0, 6, 3))
        other.give_back(0, 0)
        other.cut(0, 1)
        self.assertEqual(other.pieces(), [(0, 0, 1, 0, None), (2, 1, 6, 1, None), (1, 8, 9, 8, None)])
        self.assertEqual(
            one.pieces(), [(0, 0, 4, 2, (0, "ann", 8)), (2, 4, 6, 4, None), (1, 8, 9, 8, None)])
        self.assertEqual((one.all_results(), other.all_results()), ([(0, (1, 2))], []))
        self.assertEqual((one.moment_now(), other.moment_now()), (5, 0))
        self.assertEqual(seen(Book(work, 3, 2, 2)), fresh)

    def test_lists_that_tuples_were_made_of_may_change(self):
        rows, numbers = [(0, 2), (4, 6)], [7]
        book = Book(tuple(rows), 3, 1, 1)
        book.lend("ann", 0)
        book.tell(0, 0, tuple(numbers), 0)
        rows.append((9, 10))
        numbers[0] = 8
        self.assertEqual(book.bounds()[0], ((0, 2), (4, 6)))
        self.assertEqual(book.all_results(), [(0, (7,))])


class Sizes(unittest.TestCase):
    def lend_all(self, book):
        token = 0
        while book.left_work():
            token, number, mark, high, until = book.lend("ann", book.moment_now())
            while mark < high:
                mark = book.tell(token, mark, tuple(range(mark, min(mark + 10, high))), book.moment_now() + 1)[0]
        return token

    def test_two_hundred_pieces_of_ten_places(self):
        work = tuple((20 * seat, 20 * seat + 10) for seat in range(200))
        book = Book(work, 5, 10, 10)
        self.assertEqual(in_short_time(self, lambda: self.lend_all(book)), 199)
        self.assertEqual(book.all_results(), [(low, tuple(range(low, high))) for low, high in work])
        self.assertEqual(book.moment_now(), 200)

    def test_two_thousand_places_told_one_by_one(self):
        book = Book(((BIG, BIG + 2000),), 5, 1, 1)
        book.lend("ann", 0)

        def tell_all():
            for step in range(2000):
                book.tell(0, BIG + step, (step,), step)

        in_short_time(self, tell_all)
        self.assertEqual(book.all_results(), [(BIG, tuple(range(2000)))])
        self.assertEqual(book.pieces(), [(0, BIG, BIG + 2000, BIG + 2000, None)])

    def test_cut_into_two_hundred_pieces_and_joined_again(self):
        book = Book(((0, 2000),), 5, 1, 1)

        def cut_and_join():
            for step in range(199, 0, -1):
                book.cut(0, 10 * step)
            cut = book.pieces()
            for _ in range(199):
                book.join(0)
            return cut

        cut = in_short_time(self, cut_and_join)
        self.assertEqual(
            cut[:2] + cut[-1:], [(0, 0, 10, 0, None), (199, 10, 20, 10, None), (1, 1990, 2000, 1990, None)])
        self.assertEqual(len(cut), 200)
        self.assertEqual(book.pieces(), [(0, 0, 2000, 0, None)])


if __name__ == "__main__":
    unittest.main()
