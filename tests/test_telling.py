import unittest

from lentwork.books import Book
from lentwork.errors import BadMoment, BadTelling, Lost, NoLending, Otherwise
from tests.support import BIG, no_numbers, no_wholes, refused, seen


class Accepted(unittest.TestCase):
    def setUp(self):
        self.book = Book(((0, 10), (20, 22)), 5, 3, 4)
        self.book.lend("ann", 1)

    def mark(self):
        return self.book.pieces()[0][3]

    def test_from_the_mark(self):
        self.assertEqual(self.book.tell(0, 0, (70, 71), 2), (2, 10, 7))
        self.assertEqual(self.book.tell(0, 2, (72, 73, 74), 4), (5, 10, 9))
        self.assertEqual(seen(self.book), (
            [(0, 0, 10, 5, (0, "ann", 9)), (1, 20, 22, 20, None)], 4, (((0, 10), (20, 22)), 5, 3, 4),
            [(0, (70, 71, 72, 73, 74))], ((5, 10), (20, 22))))

    def test_from_ahead_of_the_mark(self):
        self.book.tell(0, 0, (70, 71), 2)
        self.assertEqual(self.book.tell(0, 1, (71, 72), 2), (3, 10, 7))
        self.assertEqual(self.book.tell(0, 0, (70, 71, 72, 73, 74, 75), 2), (6, 10, 7))
        self.assertEqual(self.book.all_results(), [(0, (70, 71, 72, 73, 74, 75))])

    def test_what_was_told_already_is_a_sign_of_life(self):
        self.book.tell(0, 0, (70, 71, 72), 2)
        for moment, place, numbers in ((3, 0, (70,)), (4, 0, (70, 71, 72)), (5, 1, (71,)), (9, 2, (72,)), (9, 1, ())):
            self.assertEqual(self.book.tell(0, place, numbers, moment), (3, 10, moment + 5))
            self.assertEqual(self.book.pieces()[0], (0, 0, 10, 3, (0, "ann", moment + 5)))
            self.assertEqual(self.book.moment_now(), moment)
        self.assertEqual(self.book.all_results(), [(0, (70, 71, 72))])

    def test_nothing_is_a_sign_of_life(self):
        self.assertEqual(self.book.tell(0, 0, (), 6), (0, 10, 11))
        self.assertEqual(self.book.pieces()[0], (0, 0, 10, 0, (0, "ann", 11)))
        self.assertEqual((self.book.moment_now(), self.book.all_results()), (6, []))
        self.book.give_back(0, 6)
        self.assertEqual(self.book.lend("ann", 6), (1, 0, 0, 10, 11))

    def test_as_far_as_every_behind_the_mark(self):
        for mark, place, count in ((0, 0, 3), (3, 0, 6), (6, 4, 5), (9, 9, 3)):
            self.assertEqual(self.mark(), mark)
            self.book.tell(0, place, tuple(range(place, place + count)), 2)
        self.assertEqual(self.book.all_results(), [(0, tuple(range(10)))])

    def test_a_done_piece_has_no_lending(self):
        for mark in (0, 3, 6):
            self.book.tell(0, mark, (mark, mark, mark), 3)
        self.assertEqual(self.book.tell(0, 9, (9,), 4), (10, 10, None))
        self.assertEqual(self.book.pieces()[0], (0, 0, 10, 10, None))
        self.assertEqual((self.book.moment_now(), self.book.left_work()), (4, ((20, 22),)))
        refused(self, Lost, self.book.tell, 0, 10, (), 4)
        refused(self, Lost, self.book.give_back, 0, 4)

    def test_numbers_beyond_the_high_are_left_out(self):
        for mark in (0, 3, 6):
            self.book.tell(0, mark, (mark, mark, mark), 3)
        self.assertEqual(self.book.tell(0, 9, (9, 10, 11), 4), (10, 10, None))
        self.assertEqual(self.book.all_results(), [(0, (0, 0, 0, 3, 3, 3, 6, 6, 6, 9))])

    def test_numbers_beyond_a_high_are_not_the_next_pieces_own(self):
        book = Book(((0, 2), (2, 4)), 5, 4, 4)
        book.lend("ann", 0)
        self.assertEqual(book.tell(0, 0, (1, 2, 3, 4), 0), (2, 2, None))
        self.assertEqual((book.all_results(), book.left_work()), ([(0, (1, 2))], ((2, 4),)))
        self.assertEqual(book.pieces(), [(0, 0, 2, 2, None), (1, 2, 4, 2, None)])

    def test_numbers_beyond_a_cut_are_left_out(self):
        self.book.tell(0, 0, (70, 71), 2)
        self.book.cut(0, 5)
        self.assertEqual(self.book.tell(0, 2, (72, 73), 3), (4, 5, 8))
        self.assertEqual(self.book.tell(0, 3, (73, 74, 75, 76), 3), (5, 5, None))
        self.assertEqual(self.book.all_results(), [(0, (70, 71, 72, 73, 74))])
        self.assertEqual(self.book.pieces(), [
            (0, 0, 5, 5, None), (2, 5, 10, 5, None), (1, 20, 22, 20, None)])

    def test_numbers_beyond_the_cut_of_a_lending_are_left_out(self):
        book = Book(((0, 8),), 5, 3, 4)
        book.lend("ann", 0)
        self.assertEqual(book.lend("bob", 0), (1, 1, 4, 8, 5))
        self.assertEqual(book.tell(1, 4, (94,), 1), (5, 8, 6))
        self.assertEqual(book.tell(0, 0, (70, 71, 72), 1), (3, 4, 6))
        self.assertEqual(book.tell(0, 3, (73, 74, 75), 1), (4, 4, None))
        self.assertEqual(book.all_results(), [(0, (70, 71, 72, 73, 94))])

    def test_behind_a_join_the_new_high_holds(self):
        book = Book(((0, 3), (3, 6)), 5, 4, 9)
        book.lend("ann", 0)
        book.join(0)
        self.assertEqual(book.tell(0, 0, (1, 2, 3, 4), 1), (4, 6, 6))
        self.assertEqual(book.tell(0, 3, (4, 5, 6, 7), 1), (6, 6, None))
        self.assertEqual(book.all_results(), [(0, (1, 2, 3, 4, 5, 6))])

    def test_a_late_lending_that_nobody_took_over_still_tells(self):
        self.assertEqual(self.book.tell(0, 0, (70,), 100), (1, 10, 105))
        self.assertEqual(self.book.pieces()[0], (0, 0, 10, 1, (0, "ann", 105)))

    def test_until_is_the_telling_and_span(self):
        self.assertEqual(self.book.tell(0, 0, (70,), 1), (1, 10, 6))
        self.assertEqual(self.book.tell(0, 1, (70,), 1), (2, 10, 6))
        self.assertEqual(self.book.tell(0, 2, (70,), BIG), (3, 10, BIG + 5))

    def test_any_whole_number_is_a_result(self):
        self.book.tell(0, 0, (0, -1, BIG * 10 - 1), 1)
        self.book.tell(0, 3, (0, 0, 1 - BIG * 10), 1)
        self.assertEqual(self.book.all_results(), [(0, (0, -1, BIG * 10 - 1, 0, 0, 1 - BIG * 10))])

    def test_tellings_of_several_lendings_between_one_another(self):
        self.book.lend("bob", 1)
        self.book.tell(0, 0, (70,), 2)
        self.assertEqual(self.book.tell(1, 20, (90,), 3), (21, 22, 8))
        self.assertEqual(self.book.tell(0, 1, (71,), 3), (2, 10, 8))
        self.assertEqual(self.book.tell(1, 21, (91,), 3), (22, 22, None))
        self.assertEqual(self.book.all_results(), [(0, (70, 71)), (20, (90, 91))])


class Refused(unittest.TestCase):
    """Lendings 2, 4 and 5 are held; 0 is done, 1 was taken over by 5, 3 was given back; no other was made."""

    def setUp(self):
        self.book = book = Book(((0, 12), (20, 30), (40, 43)), 3, 3, 20)
        book.lend("ann", 0)
        book.cut(0, 3)
        book.tell(0, 0, (70, 71, 72), 0)
        book.lend("bob", 1)
        book.tell(1, 20, (90, 91), 2)
        book.lend("cy", 2)
        book.lend("dan", 2)
        book.give_back(3, 3)
        book.tell(2, 3, (73, 74, 75), 9)
        book.lend("eve", 9)
        book.lend("fay", 9)
        self.before = seen(book)

    def refuse_telling(self, kind, token, place, numbers, moment):
        refused(self, kind, self.book.tell, token, place, numbers, moment)
        self.assertEqual(seen(self.book), self.before)

    def refuse(self, kind, token, moment):
        """Of a telling, whatever it tells, and of a giving back."""
        for place, numbers in ((3, (73,)), (6, ()), (6, (76,)), (3, (0,)), (None, None), (99, (1,) * 9)):
            self.refuse_telling(kind, token, place, numbers, moment)
        refused(self, kind, self.book.give_back, token, moment)
        self.assertEqual(seen(self.book), self.before)

    def test_the_book(self):
        self.assertEqual(self.before[:2], ([
            (0, 0, 3, 3, None), (3, 3, 12, 6, (2, "cy", 12)), (1, 20, 30, 22, (5, "fay", 12)),
            (2, 40, 43, 40, (4, "eve", 12))], 9))
        self.assertEqual(self.before[3], [(0, (70, 71, 72, 73, 74, 75)), (20, (90, 91))])

    def test_moments_that_are_none(self):
        for seat, thing in enumerate(no_wholes()):
            with self.subTest(seat):
                for token in (2, 1, 6, None):
                    self.refuse(BadMoment, token, thing)

    def test_moments_that_fall_back(self):
        for moment in (8, 0, -1, -BIG):
            for token in (2, 4, 0, 1, 3, 6, -1, None, True, "0"):
                self.refuse(BadMoment, token, moment)

    def test_tokens_that_were_never_given(self):
        for token in (6, 7, 100, BIG, -1, -2, -BIG):
            self.refuse(NoLending, token, 9)
            self.refuse(NoLending, token, 50)
        for seat, thing in enumerate(no_wholes()):
            with self.subTest(seat):
                self.refuse(NoLending, thing, 9)

    def test_no_token_was_given_yet(self):
        book = Book(((0, 5),), 3, 1, 1)
        for token in (0, 1, -1, None, True, False):
            refused(self, NoLending, book.tell, token, 0, (), 0)
            refused(self, NoLending, book.give_back, token, 0)

    def test_lendings_that_are_lost(self):
        for token in (0, 1, 3):
            self.refuse(Lost, token, 9)
            self.refuse(Lost, token, 50)

    def test_places_that_are_no_whole_numbers(self):
        for seat, thing in enumerate(no_wholes()):
            with self.subTest(seat):
                self.refuse_telling(BadTelling, 2, thing, (73,), 9)
                self.refuse_telling(BadTelling, 2, thing, (), 9)
                self.refuse_telling(BadTelling, 2, thing, None, 9)

    def test_places_below_the_low_or_above_the_mark(self):
        for place in (2, 1, 0, -1, -BIG, 7, 8, 12, 13, 20, BIG):
            for numbers in ((), (72,), (72, 73), (70, 71, 72, 73)):
                self.refuse_telling(BadTelling, 2, place, numbers, 9)
        for place in (19, 23, 3, 6, 40):
            self.refuse_telling(BadTelling, 5, place, (1,), 9)

    def test_numbers_that_are_none(self):
        for seat, thing in enumerate(no_numbers()):
            with self.subTest(seat):
                for place in (3, 6):
                    self.refuse_telling(BadTelling, 2, place, thing, 9)

    def test_further_than_every_behind_the_mark(self):
        known = (73, 74, 75)
        for place, numbers in ((6, (1,) * 4), (6, (1,) * 9), (5, (75,) + (1,) * 4), (3, known + (1,) * 4)):
            self.refuse_telling(BadTelling, 2, place, numbers, 9)
            self.refuse_telling(BadTelling, 2, place, numbers, 60)
        self.refuse_telling(BadTelling, 4, 40, (1, 2, 3, 4), 9)

    def test_further_than_every_also_where_it_is_beyond_a_cut(self):
        self.book.cut(3, 9)
        self.before = seen(self.book)
        self.refuse_telling(BadTelling, 2, 6, (1,) * 4, 9)
        self.assertEqual(self.book.tell(2, 6, (1,) * 3, 9), (9, 9, None))

    def test_another_result(self):
        for place, numbers in (
                (3, (74,)), (3, (73, 75)), (3, (73, 74, 74)), (4, (73,)), (5, (0,)), (5, (76, 77)), (5, (-75,)),
                (3, (0, 74, 75, 76)), (3, (73, 74, 0, 76, 77, 78)), (4, (0, 75))):
            self.refuse_telling(Otherwise, 2, place, numbers, 9)
            self.refuse_telling(Otherwise, 2, place, numbers, 60)
        for numbers in ((91,), (90, 90), (0, 91, 92)):
            self.refuse_telling(Otherwise, 5, 20, numbers, 9)

    def test_a_bad_telling_is_told_ahead_of_another_result(self):
        for place, numbers in ((3, (0,) * 7), (3, (0, True)), (3, [0]), (2, (0, 0)), (3, (73, 0, None))):
            self.refuse_telling(BadTelling, 2, place, numbers, 9)

    def test_what_was_refused_can_be_told_rightly(self):
        self.refuse_telling(Otherwise, 2, 5, (0, 76), 60)
        self.refuse_telling(BadTelling, 2, 6, (76,) * 4, 60)
        self.assertEqual(self.book.tell(2, 5, (75, 76), 10), (7, 12, 13))
        self.assertEqual(self.book.tell(5, 20, (90, 91, 92), 10), (23, 30, 13))
        self.assertEqual(self.book.all_results(), [(0, (70, 71, 72, 73, 74, 75, 76)), (20, (90, 91, 92))])

    def test_what_a_lost_lending_told_is_kept(self):
        self.assertEqual(self.book.tell(5, 22, (122,), 9), (23, 30, 12))
        self.assertEqual(self.book.all_results()[1], (20, (90, 91, 122)))


class GivingBack(unittest.TestCase):
    def setUp(self):
        self.book = Book(((0, 10), (20, 22)), 5, 3, 4)
        self.book.lend("ann", 1)
        self.book.tell(0, 0, (70, 71), 2)

    def test_the_piece_is_free_with_its_mark(self):
        self.assertIsNone(self.book.give_back(0, 4))
        self.assertEqual(seen(self.book), (
            [(0, 0, 10, 2, None), (1, 20, 22, 20, None)], 4, (((0, 10), (20, 22)), 5, 3, 4), [(0, (70, 71))],
            ((2, 10), (20, 22))))
        self.assertEqual(self.book.choice(4), ("piece", 0))

    def test_it_can_be_given_back_once(self):
        self.book.give_back(0, 4)
        refused(self, Lost, self.book.give_back, 0, 4)
        refused(self, Lost, self.book.tell, 0, 2, (72,), 4)

    def test_it_goes_on_from_the_mark(self):
        self.book.give_back(0, 4)
        self.assertEqual(self.book.lend("bob", 4), (1, 0, 2, 10, 9))
        self.assertEqual(self.book.tell(1, 2, (82,), 4), (3, 10, 9))
        refused(self, Lost, self.book.give_back, 0, 4)
        self.assertEqual(self.book.all_results(), [(0, (70, 71, 82))])

    def test_at_the_same_moment(self):
        self.book.give_back(0, 2)
        self.assertEqual(self.book.moment_now(), 2)

    def test_a_late_one_that_nobody_took_over(self):
        self.book.give_back(0, 500)
        self.assertEqual((self.book.moment_now(), self.book.pieces()[0]), (500, (0, 0, 10, 2, None)))

    def test_others_keep_their_lendings(self):
        self.book.lend("bob", 3)
        self.book.give_back(0, 4)
        self.assertEqual(self.book.pieces()[1], (1, 20, 22, 20, (1, "bob", 8)))
        self.book.give_back(1, 4)
        self.assertEqual([piece[4] for piece in self.book.pieces()], [None, None])


if __name__ == "__main__":
    unittest.main()
