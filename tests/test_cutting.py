import unittest

from lentwork.books import Book
from lentwork.errors import BadCut, BadJoin, NoPiece
from tests.support import BIG, no_wholes, refused, seen


def tried(case, book, kind, name, *handed):
    """The deed is refused and changes nothing."""
    before = seen(book)
    refused(case, kind, getattr(book, name), *handed)
    case.assertEqual(seen(book), before)


class Cuts(unittest.TestCase):
    def test_a_free_piece(self):
        book = Book(((0, 6), (10, 12)), 5, 2, 4)
        self.assertIsNone(book.cut(0, 4))
        self.assertEqual(book.pieces(), [(0, 0, 4, 0, None), (2, 4, 6, 4, None), (1, 10, 12, 10, None)])
        book.cut(2, 5)
        self.assertEqual(
            book.pieces(), [(0, 0, 4, 0, None), (2, 4, 5, 4, None), (3, 5, 6, 5, None), (1, 10, 12, 10, None)])
        self.assertEqual((book.moment_now(), book.left_work(), book.all_results()), (0, ((0, 6), (10, 12)), []))

    def test_a_free_piece_anywhere_behind_its_mark(self):
        for place in range(-1, 9):
            book = Book(((0, 7),), 5, 3, 3)
            book.lend("ann", 0)
            book.tell(0, 0, (50, 51), 0)
            book.give_back(0, 0)
            with self.subTest(place):
                if 2 < place < 7:
                    book.cut(0, place)
                    self.assertEqual(book.pieces(), [(0, 0, place, 2, None), (1, place, 7, place, None)])
                else:
                    tried(self, book, BadCut, "cut", 0, place)

    def test_a_lent_piece_no_nearer_than_every_behind_its_mark(self):
        for place in range(-1, 9):
            book = Book(((0, 7),), 5, 3, 3)
            book.lend("ann", 1)
            book.tell(0, 0, (50, 51), 2)
            with self.subTest(place):
                if 5 <= place < 7:
                    book.cut(0, place)
                    self.assertEqual(
                        book.pieces(), [(0, 0, place, 2, (0, "ann", 7)), (1, place, 7, place, None)])
                    self.assertEqual(book.moment_now(), 2)
                else:
                    tried(self, book, BadCut, "cut", 0, place)

    def test_a_late_piece_is_lent(self):
        book = Book(((0, 7),), 1, 3, 3)
        book.lend("ann", 0)
        book.lend("bob", 0)
        book.tell(1, 4, (1,), 50)
        tried(self, book, BadCut, "cut", 0, 2)
        book.cut(0, 3)
        self.assertEqual(book.pieces()[:2], [(0, 0, 3, 0, (0, "ann", 1)), (2, 3, 4, 3, None)])

    def test_a_done_piece_can_not_be_cut(self):
        book = Book(((0, 3),), 5, 3, 3)
        book.lend("ann", 0)
        book.tell(0, 0, (1, 2, 3), 0)
        for place in range(-1, 5):
            tried(self, book, BadCut, "cut", 0, place)

    def test_a_piece_of_one_place_can_not_be_cut(self):
        book = Book(((4, 5),), 5, 1, 1)
        for place in (3, 4, 5, 6):
            tried(self, book, BadCut, "cut", 0, place)

    def test_no_bound_holds_a_cut_by_hand_but_every(self):
        book = Book(((0, 9),), 5, 2, 8)
        book.cut(0, 1)
        book.lend("ann", 0)
        self.assertEqual(book.pieces()[1], (1, 1, 9, 1, (0, "ann", 5)))
        book.cut(1, 3)
        self.assertEqual(book.pieces()[1:], [(1, 1, 3, 1, (0, "ann", 5)), (2, 3, 9, 3, None)])

    def test_places_that_are_no_whole_numbers(self):
        book = Book(((0, 9),), 5, 1, 1)
        for seat, thing in enumerate(no_wholes()):
            with self.subTest(seat):
                tried(self, book, BadCut, "cut", 0, thing)

    def test_places_far_away(self):
        book = Book(((0, 9), (20, 29)), 5, 1, 1)
        for place in (BIG, -BIG, 25, 20):
            tried(self, book, BadCut, "cut", 0, place)
        tried(self, book, BadCut, "cut", 1, 5)

    def test_the_new_piece_is_lent_on_its_own(self):
        book = Book(((0, 9),), 5, 1, 9)
        book.lend("ann", 0)
        book.cut(0, 4)
        self.assertEqual(book.lend("bob", 3), (1, 1, 4, 9, 8))
        self.assertEqual(book.tell(1, 4, (94,), 3), (5, 9, 8))
        self.assertEqual(book.tell(0, 0, (70,), 4), (1, 4, 9))
        self.assertEqual(book.all_results(), [(0, (70,)), (4, (94,))])


class NoPieces(unittest.TestCase):
    def setUp(self):
        self.book = Book(((0, 4), (4, 8), (20, 22)), 5, 1, 1)

    def refuse(self, number):
        for place in (1, 2, None, True, -5):
            tried(self, self.book, NoPiece, "cut", number, place)
        tried(self, self.book, NoPiece, "join", number)

    def test_numbers_that_no_piece_has(self):
        for number in (3, 4, -1, -3, BIG, -BIG):
            self.refuse(number)

    def test_things_that_are_no_numbers(self):
        for seat, thing in enumerate(no_wholes()):
            with self.subTest(seat):
                self.refuse(thing)

    def test_a_book_without_pieces(self):
        self.book = Book((), 5, 1, 1)
        for number in (0, 1, -1, None, False):
            self.refuse(number)

    def test_numbers_of_pieces_that_are_gone(self):
        self.book.join(0)
        self.refuse(1)
        self.book.cut(0, 4)
        # The number of a piece that is gone does not come again.
        self.assertEqual(self.book.pieces(), [(0, 0, 4, 0, None), (3, 4, 8, 4, None), (2, 20, 22, 20, None)])
        self.refuse(1)
        self.refuse(4)
        self.book.join(0)
        self.refuse(3)
        self.book.cut(0, 5)
        self.assertEqual([piece[0] for piece in self.book.pieces()], [0, 4, 2])

    def test_the_last_number_does_not_come_again_either(self):
        book = Book(((0, 4),), 5, 1, 1)
        for number in (1, 2, 3):
            book.cut(0, 2)
            self.assertEqual(book.pieces(), [(0, 0, 2, 0, None), (number, 2, 4, 2, None)])
            book.join(0)
            self.assertEqual(book.pieces(), [(0, 0, 4, 0, None)])


class Joins(unittest.TestCase):
    def test_two_free_pieces(self):
        book = Book(((0, 4), (4, 8), (8, 9)), 5, 1, 1)
        self.assertIsNone(book.join(0))
        self.assertEqual(book.pieces(), [(0, 0, 8, 0, None), (2, 8, 9, 8, None)])
        book.join(0)
        self.assertEqual(book.pieces(), [(0, 0, 9, 0, None)])
        self.assertEqual((book.moment_now(), book.left_work()), (0, ((0, 9),)))
        self.assertEqual(book.bounds()[0], ((0, 4), (4, 8), (8, 9)))

    def test_a_free_piece_with_a_mark_keeps_it(self):
        book = Book(((0, 4), (4, 7)), 5, 2, 2)
        book.lend("ann", 0)
        book.tell(0, 0, (1, 2), 3)
        book.give_back(0, 3)
        book.join(0)
        self.assertEqual(book.pieces(), [(0, 0, 7, 2, None)])
        self.assertEqual(book.lend("bob", 3), (1, 0, 2, 7, 8))

    def test_a_lent_piece_keeps_its_lending(self):
        book = Book(((0, 4), (4, 7)), 5, 2, 2)
        book.lend("ann", 0)
        book.tell(0, 0, (1, 2), 3)
        book.join(0)
        self.assertEqual(book.pieces(), [(0, 0, 7, 2, (0, "ann", 8))])
        self.assertEqual(book.moment_now(), 3)
        self.assertEqual(book.tell(0, 2, (3, 4), 4), (4, 7, 9))
        self.assertEqual(book.tell(0, 4, (5, 6), 4), (6, 7, 9))

    def test_a_late_piece_keeps_its_lending(self):
        book = Book(((0, 4), (4, 7), (10, 13)), 5, 2, 2)
        for worker in ("ann", "bob", "cy"):
            book.lend(worker, 0)
        book.give_back(1, 50)
        book.join(0)
        self.assertEqual(book.pieces()[0], (0, 0, 7, 0, (0, "ann", 5)))

    def test_a_done_piece_is_free_then(self):
        book = Book(((0, 4), (4, 7)), 5, 4, 4)
        book.lend("ann", 0)
        book.tell(0, 0, (1, 2, 3, 4), 3)
        book.join(0)
        self.assertEqual(book.pieces(), [(0, 0, 7, 4, None)])
        self.assertEqual(book.choice(3), ("piece", 0))
        self.assertEqual(book.lend("bob", 3), (1, 0, 4, 7, 8))
        # The places that were done ahead of the join are ahead of the mark now.
        self.assertEqual(book.tell(1, 0, (1, 2, 3, 4, 5), 3), (5, 7, 8))
        self.assertEqual(book.all_results(), [(0, (1, 2, 3, 4, 5))])

    def test_none_begins_at_its_high(self):
        book = Book(((0, 4), (5, 8), (8, 9)), 5, 1, 1)
        tried(self, book, BadJoin, "join", 0)
        tried(self, book, BadJoin, "join", 2)
        book.join(1)
        tried(self, book, BadJoin, "join", 1)
        self.assertEqual(book.pieces(), [(0, 0, 4, 0, None), (1, 5, 9, 5, None)])

    def test_only_with_the_one_behind(self):
        book = Book(((0, 4), (4, 8)), 5, 1, 1)
        tried(self, book, BadJoin, "join", 1)

    def test_the_other_one_is_lent(self):
        book = Book(((0, 4), (4, 9)), 5, 1, 1)
        book.lend("ann", 0)
        tried(self, book, BadJoin, "join", 0)
        book.lend("bob", 0)
        tried(self, book, BadJoin, "join", 0)
        book.tell(1, 0, (1,), 50)
        tried(self, book, BadJoin, "join", 0)
        book.give_back(0, 50)
        book.join(0)
        self.assertEqual(book.pieces(), [(0, 0, 9, 1, (1, "bob", 55))])

    def test_the_other_one_has_a_mark_above_its_low(self):
        book = Book(((0, 4), (4, 9)), 5, 1, 1)
        book.lend("ann", 0)
        book.tell(0, 4, (1,), 0)
        book.give_back(0, 0)
        tried(self, book, BadJoin, "join", 0)

    def test_the_other_one_is_done(self):
        book = Book(((0, 4), (4, 9)), 5, 5, 5)
        book.lend("ann", 0)
        book.tell(0, 4, (1, 2, 3, 4, 5), 0)
        tried(self, book, BadJoin, "join", 0)
        book.lend("ann", 0)
        book.tell(1, 0, (1, 2, 3, 4), 0)
        tried(self, book, BadJoin, "join", 0)
        self.assertEqual(book.left_work(), ())

    def test_the_number_and_not_the_order_tells_which(self):
        book = Book(((0, 8),), 5, 1, 1)
        book.cut(0, 4)
        book.cut(0, 2)
        self.assertEqual([piece[:3] for piece in book.pieces()], [(0, 0, 2), (2, 2, 4), (1, 4, 8)])
        book.join(2)
        self.assertEqual(book.pieces(), [(0, 0, 2, 0, None), (2, 2, 8, 2, None)])
        tried(self, book, NoPiece, "join", 1)

    def test_cut_and_joined_a_lending_goes_on(self):
        book = Book(((0, 8),), 5, 2, 8)
        book.lend("ann", 0)
        book.cut(0, 4)
        self.assertEqual(book.tell(0, 0, (1, 2), 1), (2, 4, 6))
        book.join(0)
        self.assertEqual(book.tell(0, 2, (3, 4), 1), (4, 8, 6))
        book.cut(0, 6)
        self.assertEqual(book.pieces(), [(0, 0, 6, 4, (0, "ann", 6)), (2, 6, 8, 6, None)])


if __name__ == "__main__":
    unittest.main()
