import unittest

from lentwork.books import Book
from lentwork.errors import BadMoment, BadWorker, Lost
from tests.support import BIG, no_wholes, no_workers, refused, seen


def told_up_to(book, token, mark, moment):
    """The lending tells one place after the other up to the mark, each with its place as its result."""
    while True:
        low = [piece[3] for piece in book.pieces() if piece[4] is not None and piece[4][0] == token]
        if not low or low[0] >= mark:
            return
        book.tell(token, low[0], (low[0],), moment)


class ChoiceOfFree(unittest.TestCase):
    def test_the_greatest_rest(self):
        self.assertEqual(Book(((0, 3), (5, 10), (20, 24)), 3, 1, 1).choice(0), ("piece", 1))
        self.assertEqual(Book(((0, 3), (5, 7), (20, 24)), 3, 1, 1).choice(0), ("piece", 2))
        self.assertEqual(Book(((0, 6), (7, 9), (20, 24)), 3, 1, 1).choice(0), ("piece", 0))

    def test_a_piece_of_one_place(self):
        self.assertEqual(Book(((5, 6),), 3, 2, 4).choice(0), ("piece", 0))

    def test_of_like_rests_the_least_low(self):
        self.assertEqual(Book(((-9, -6), (0, 5), (10, 15), (20, 25)), 3, 1, 1).choice(0), ("piece", 1))

    def test_the_least_low_and_not_the_least_number(self):
        book = Book(((0, 8), (20, 24)), 9, 1, 1)
        book.cut(0, 4)
        self.assertEqual(book.choice(0), ("piece", 0))
        book.lend("ann", 0)
        self.assertEqual(book.choice(0), ("piece", 2))
        book.lend("bob", 0)
        self.assertEqual(book.choice(0), ("piece", 1))

    def test_the_rest_and_not_the_length(self):
        book = Book(((0, 6), (10, 15), (20, 24)), 9, 3, 3)
        book.lend("ann", 0)
        book.tell(0, 0, (1, 2), 0)
        book.give_back(0, 0)
        self.assertEqual(book.pieces()[0], (0, 0, 6, 2, None))
        self.assertEqual(book.choice(0), ("piece", 1))
        book.lend("bob", 0)
        # Two rests of four: the one that began with more is the one with the least low.
        self.assertEqual(book.choice(0), ("piece", 0))

    def test_done_ones_are_not_chosen(self):
        book = Book(((0, 3), (5, 7)), 9, 3, 3)
        book.lend("ann", 0)
        book.tell(0, 0, (1, 2, 3), 0)
        self.assertEqual(book.choice(0), ("piece", 1))
        book.lend("ann", 0)
        book.tell(1, 5, (1, 2), 0)
        self.assertIsNone(book.choice(0))
        self.assertIsNone(book.choice(BIG))

    def test_free_ones_come_ahead_of_late_and_of_lent_ones(self):
        book = Book(((0, 50), (60, 61)), 3, 1, 1)
        book.lend("ann", 0)
        self.assertEqual(book.choice(0), ("piece", 1))
        self.assertEqual(book.choice(100), ("piece", 1))


class ChoiceOfLate(unittest.TestCase):
    def setUp(self):
        self.book = Book(((0, 5), (10, 16), (20, 25), (30, 32)), 3, 1, 2)
        for moment, worker in enumerate(("ann", "bob", "cy", "dan")):
            self.book.lend(worker, moment)
        self.assertEqual([piece[4] for piece in self.book.pieces()], [
            (1, "bob", 4), (0, "ann", 3), (2, "cy", 5), (3, "dan", 6)])

    def test_late_is_above_until(self):
        self.assertEqual(self.book.choice(3), ("cut", 1, 13))
        self.assertEqual(self.book.choice(4), ("piece", 1))

    def test_the_greatest_rest_of_the_late_ones(self):
        self.book.tell(0, 10, (1,), 4)
        self.assertEqual(self.book.choice(4), ("cut", 0, 3))
        self.assertEqual(self.book.choice(5), ("piece", 0))
        # Two late ones with a rest of five, at 0 and at 20.
        self.assertEqual(self.book.choice(6), ("piece", 0))
        self.book.tell(1, 0, (1,), 5)
        self.assertEqual(self.book.choice(6), ("piece", 2))
        self.assertEqual(self.book.choice(7), ("piece", 2))
        self.assertEqual(self.book.choice(8), ("piece", 1))

    def test_a_late_one_comes_ahead_of_a_greater_one_that_is_not_late(self):
        for token, place in ((0, 10), (1, 0), (2, 20)):
            self.book.tell(token, place, (), 6)
        self.assertEqual(self.book.choice(6), ("cut", 1, 13))
        self.assertEqual(self.book.choice(7), ("piece", 3))

    def test_of_like_rests_the_least_low_and_not_the_least_number(self):
        book = Book(((0, 8), (20, 24)), 2, 1, 1)
        book.cut(0, 4)
        for worker in ("ann", "bob", "cy"):
            book.lend(worker, 0)
        self.assertEqual(book.choice(3), ("piece", 0))
        book.lend("dan", 3)
        self.assertEqual(book.choice(3), ("piece", 2))
        book.lend("dan", 3)
        self.assertEqual(book.choice(3), ("piece", 1))

    def test_telling_the_choice_changes_nothing(self):
        before = seen(self.book)
        for moment in (3, 4, 50, BIG, 3):
            self.book.choice(moment)
            self.assertEqual(seen(self.book), before)
        self.assertEqual(self.book.choice(3), ("cut", 1, 13))
        self.assertEqual(self.book.lend("eve", 3)[0], 4)


class ChoiceOfCuts(unittest.TestCase):
    def cut_of(self, rest, least, done=0, low=0):
        book = Book(((low, low + done + rest),), 9, 1, least)
        book.lend("ann", 0)
        told_up_to(book, 0, low + done, 0)
        self.assertEqual(book.pieces()[0][3], low + done)
        return book.choice(0)

    def test_the_half_is_rounded_down(self):
        for rest, half in ((2, 1), (3, 1), (4, 2), (5, 2), (6, 3), (7, 3), (8, 4), (9, 4), (100, 50), (101, 50)):
            with self.subTest(rest):
                self.assertEqual(self.cut_of(rest, 1), ("cut", 0, rest - half))
                self.assertEqual(self.cut_of(rest, 1, 3), ("cut", 0, 3 + rest - half))
                self.assertEqual(self.cut_of(rest, 1, 0, -50), ("cut", 0, rest - half - 50))

    def test_the_rest_is_at_least_twice_least(self):
        for least in range(1, 8):
            for rest in range(1, 20):
                with self.subTest((least, rest)):
                    right = ("cut", 0, rest - rest // 2) if rest >= 2 * least else None
                    self.assertEqual(self.cut_of(rest, least), right)

    def test_the_rest_and_not_the_length(self):
        self.assertEqual(self.cut_of(8, 4, 5), ("cut", 0, 9))
        self.assertIsNone(self.cut_of(7, 4, 5))
        self.assertIsNone(self.cut_of(7, 4, 20))

    def test_the_greatest_rest(self):
        book = Book(((0, 10), (20, 31), (40, 50)), 9, 2, 5)
        for worker in ("ann", "bob", "cy"):
            book.lend(worker, 0)
        self.assertEqual(book.choice(0), ("cut", 1, 26))
        book.tell(0, 20, (1, 2), 0)
        self.assertEqual(book.choice(0), ("cut", 0, 5))
        book.tell(1, 0, (1,), 0)
        self.assertEqual(book.choice(0), ("cut", 2, 45))
        book.tell(2, 40, (1,), 0)
        self.assertIsNone(book.choice(0))

    def test_of_like_rests_the_least_low_and_not_the_least_number(self):
        book = Book(((0, 8), (20, 24)), 9, 1, 1)
        book.cut(0, 4)
        for worker in ("ann", "bob", "cy"):
            book.lend(worker, 0)
        self.assertEqual(book.choice(0), ("cut", 0, 2))
        book.tell(0, 0, (1,), 0)
        self.assertEqual(book.choice(0), ("cut", 2, 6))

    def test_a_cut_lies_no_nearer_than_every_behind_the_mark(self):
        for every in range(1, 5):
            for rest in range(2 * every, 12):
                book = Book(((0, rest),), 9, every, every)
                book.lend("ann", 0)
                token, number, mark, high, until = book.lend("bob", 0)
                self.assertGreaterEqual(mark, every)
                self.assertGreaterEqual(high - mark, every)


class Moments(unittest.TestCase):
    def setUp(self):
        self.book = Book(((0, 9), (10, 12)), 3, 1, 2)
        self.book.lend("ann", 7)
        self.before = seen(self.book)

    def test_moments_that_are_no_whole_numbers(self):
        for seat, thing in enumerate(no_wholes()):
            with self.subTest(seat):
                refused(self, BadMoment, self.book.choice, thing)
                refused(self, BadMoment, self.book.lend, "bob", thing)
                self.assertEqual(seen(self.book), self.before)

    def test_moments_that_fall_back(self):
        for moment in (6, 5, 0, -1, -BIG):
            refused(self, BadMoment, self.book.choice, moment)
            refused(self, BadMoment, self.book.lend, "bob", moment)
            self.assertEqual(seen(self.book), self.before)

    def test_the_same_moment_again(self):
        self.assertEqual(self.book.choice(7), ("piece", 1))
        self.assertEqual(self.book.lend("bob", 7), (1, 1, 10, 12, 10))
        self.assertEqual(self.book.moment_now(), 7)

    def test_a_new_book_is_at_moment_0(self):
        book = Book(((0, 9),), 3, 1, 2)
        refused(self, BadMoment, book.choice, -1)
        refused(self, BadMoment, book.lend, "ann", -1)
        self.assertEqual(book.choice(0), ("piece", 0))
        self.assertEqual(book.lend("ann", 0), (0, 0, 0, 9, 3))

    def test_where_nothing_can_be_lent_a_bad_moment_is_refused_all_the_same(self):
        book = Book((), 3, 1, 2)
        refused(self, BadMoment, book.choice, -1)
        refused(self, BadMoment, book.choice, True)
        refused(self, BadMoment, book.lend, "ann", None)


class Workers(unittest.TestCase):
    def test_workers_of_one_to_eight_small_letters(self):
        for worker in ("a", "z", "m", "az", "zzz", "abcdefg", "abcdefgh", "zzzzzzzz", "none", "done"):
            with self.subTest(worker):
                book = Book(((0, 9),), 3, 1, 2)
                self.assertEqual(book.lend(worker, 2), (0, 0, 0, 9, 5))
                self.assertEqual(book.pieces(), [(0, 0, 9, 0, (0, worker, 5))])

    def test_all_else_is_refused(self):
        book = Book(((0, 9),), 3, 1, 2)
        before = seen(book)
        for seat, thing in enumerate(no_workers()):
            with self.subTest(seat):
                refused(self, BadWorker, book.lend, thing, 2)
                self.assertEqual(seen(book), before)

    def test_a_bad_worker_is_told_ahead_of_a_bad_moment(self):
        book = Book(((0, 9),), 3, 1, 2)
        for thing in ("", "Ann", None, 5):
            refused(self, BadWorker, book.lend, thing, -1)
            refused(self, BadWorker, book.lend, thing, None)
        refused(self, BadMoment, book.lend, "ann", -1)

    def test_where_nothing_can_be_lent_a_bad_worker_is_refused_all_the_same(self):
        refused(self, BadWorker, Book((), 3, 1, 2).lend, "Ann", 0)

    def test_one_worker_may_have_several_lendings(self):
        book = Book(((0, 4), (10, 13)), 3, 1, 9)
        self.assertEqual(book.lend("ann", 0), (0, 0, 0, 4, 3))
        self.assertEqual(book.lend("ann", 0), (1, 1, 10, 13, 3))
        self.assertEqual(book.lend("ann", 4), (2, 0, 0, 4, 7))
        self.assertEqual(book.pieces(), [(0, 0, 4, 0, (2, "ann", 7)), (1, 10, 13, 10, (1, "ann", 3))])
        refused(self, Lost, book.give_back, 0, 4)


class Lending(unittest.TestCase):
    def test_a_free_piece(self):
        book = Book(((0, 4), (10, 16)), 7, 2, 3)
        self.assertEqual(book.lend("ann", 5), (0, 1, 10, 16, 12))
        self.assertEqual(seen(book), (
            [(0, 0, 4, 0, None), (1, 10, 16, 10, (0, "ann", 12))], 5, (((0, 4), (10, 16)), 7, 2, 3), [],
            ((0, 4), (10, 16))))

    def test_a_free_piece_goes_on_from_its_mark(self):
        book = Book(((0, 6),), 7, 2, 3)
        book.lend("ann", 0)
        book.tell(0, 0, (50, 51), 1)
        book.give_back(0, 2)
        self.assertEqual(book.lend("bob", 3), (1, 0, 2, 6, 10))
        self.assertEqual(book.pieces(), [(0, 0, 6, 2, (1, "bob", 10))])
        self.assertEqual(book.all_results(), [(0, (50, 51))])

    def test_a_late_piece_goes_on_from_its_mark(self):
        book = Book(((0, 6),), 3, 2, 6)
        book.lend("ann", 0)
        book.tell(0, 0, (50, 51), 1)
        self.assertIsNone(book.lend("bob", 4))
        self.assertEqual(book.lend("bob", 5), (1, 0, 2, 6, 8))
        self.assertEqual(book.pieces(), [(0, 0, 6, 2, (1, "bob", 8))])
        refused(self, Lost, book.tell, 0, 2, (52,), 5)
        refused(self, Lost, book.give_back, 0, 5)
        self.assertEqual(book.tell(1, 2, (62,), 5), (3, 6, 8))
        self.assertEqual(book.all_results(), [(0, (50, 51, 62))])

    def test_a_cut_piece(self):
        book = Book(((0, 9),), 5, 2, 3)
        book.lend("ann", 0)
        book.tell(0, 0, (50, 51), 1)
        self.assertEqual(book.choice(2), ("cut", 0, 6))
        self.assertEqual(book.lend("bob", 2), (1, 1, 6, 9, 7))
        self.assertEqual(book.pieces(), [(0, 0, 6, 2, (0, "ann", 6)), (1, 6, 9, 6, (1, "bob", 7))])
        self.assertEqual(book.moment_now(), 2)
        self.assertIsNone(book.lend("cy", 3))
        self.assertEqual(book.tell(0, 2, (52, 53), 3), (4, 6, 8))
        self.assertEqual(book.tell(1, 6, (56,), 3), (7, 9, 8))

    def test_cut_again_and_again(self):
        book = Book(((0, 16),), 5, 1, 2)
        told = [book.lend("ann", 0) for _ in range(9)]
        self.assertEqual(told[:8], [
            (0, 0, 0, 16, 5), (1, 1, 8, 16, 5), (2, 2, 4, 8, 5), (3, 3, 12, 16, 5), (4, 4, 2, 4, 5), (5, 5, 6, 8, 5),
            (6, 6, 10, 12, 5), (7, 7, 14, 16, 5)])
        self.assertIsNone(told[8])
        self.assertEqual([piece[:3] for piece in book.pieces()], [
            (0, 0, 2), (4, 2, 4), (2, 4, 6), (5, 6, 8), (1, 8, 10), (6, 10, 12), (3, 12, 14), (7, 14, 16)])

    def test_none_changes_nothing(self):
        book = Book(((0, 5),), 4, 1, 3)
        book.lend("ann", 1)
        before = seen(book)
        for moment in (1, 2, 4, 5):
            self.assertIsNone(book.lend("bob", moment))
            self.assertEqual(seen(book), before)
        # Neither the moment nor a token was used up.
        self.assertIsNone(book.lend("bob", 1))
        self.assertEqual(book.lend("bob", 6), (1, 0, 0, 5, 10))

    def test_none_where_all_is_done(self):
        book = Book(((0, 2),), 4, 2, 2)
        book.lend("ann", 1)
        book.tell(0, 0, (1, 2), 1)
        before = seen(book)
        self.assertIsNone(book.lend("bob", 100))
        self.assertEqual(seen(book), before)

    def test_tokens_rise_by_one_for_each_lending(self):
        book = Book(((0, 3), (10, 13), (20, 23)), 4, 1, 2)
        self.assertEqual(book.lend("ann", 0)[0], 0)
        book.give_back(0, 0)
        self.assertEqual(book.lend("ann", 0)[0], 1)
        refused(self, BadWorker, book.lend, "Bob", 0)
        refused(self, BadMoment, book.lend, "bob", -1)
        book.choice(0)
        self.assertEqual(book.lend("bob", 0)[0], 2)
        self.assertEqual(book.lend("cy", 0)[0], 3)
        self.assertIsNone(book.lend("dan", 0))
        self.assertEqual(book.lend("dan", 5)[0], 4)

    def test_until_is_the_moment_and_span(self):
        for span in (1, 2, 9, BIG):
            for moment in (0, 1, 7, BIG):
                book = Book(((0, 3),), span, 1, 2)
                self.assertEqual(book.lend("ann", moment), (0, 0, 0, 3, moment + span))
                self.assertEqual(book.pieces(), [(0, 0, 3, 0, (0, "ann", moment + span))])
                self.assertEqual(book.moment_now(), moment)


if __name__ == "__main__":
    unittest.main()
