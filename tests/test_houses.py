import unittest

from lentwork.books import Book
from lentwork.errors import (
    BadBound, BadCut, BadJoin, BadMoment, BadTelling, BadWork, BadWorker, Fallen, Lost, NoBook, NoLending,
    NoPiece, Otherwise,
)
from lentwork.houses import House, Store, come_up
from lentwork.texts import head_text, line_text
from tests.support import (
    BIG, PlainBook, all_works, done, in_short_time, line_of, next_deed, no_numbers, no_wholes, no_workers, no_works,
    refused, rows, told_by,
)

BOUNDS = (((0, 12), (20, 30)), 3, 3, 4)
HEAD = "work 0 12 20 30 span 3 every 3 least 4\n"

# Deeds of which each changes something, the lines that they write, and what they tell.
ROW = (
    (("lend", "ann", 1), "lent 1 ann 0 0\n", (0, 0, 0, 12, 4)),
    (("tell", 0, 0, (70, 71), 2), "told 2 0 0 70 71\n", (2, 12, 5)),
    (("tell", 0, 1, (71, 72, -73), 2), "told 2 0 1 71 72 -73\n", (4, 12, 5)),
    (("give_back", 0, 2), "back 2 0\n", None),
    (("cut", 0, 9), "cut 0 9\n", None),
    (("join", 0), "join 0\n", None),
    (("lend", "bob", 3), "lent 3 bob 1 1\n", (1, 1, 20, 30, 6)),
    (("lend", "cy", 3), "lent 3 cy 2 0\n", (2, 0, 4, 12, 6)),
    (("tell", 2, 3, (-73,), 5), "told 5 2 3 -73\n", (4, 12, 8)),
    (("tell", 2, 4, (), 6), "told 6 2 4\n", (4, 12, 9)),
    (("lend", "dan", 7), "lent 7 dan 3 1\n", (3, 1, 20, 30, 10)),
    (("lend", "eve", 7), "lent 7 eve 4 3\n", (4, 3, 25, 30, 10)),
    (("tell", 4, 25, (5, 6, 7), 7), "told 7 4 25 5 6 7\n", (28, 30, 10)),
    (("tell", 4, 27, (7, 8, 9), 8), "told 8 4 27 7 8 9\n", (30, 30, None)),
)


def house_at(count, store=None):
    """A house on which so many deeds of the row were done."""
    house = House(Store() if store is None else store, *BOUNDS)
    for deed, text, told in ROW[:count]:
        done(house, deed)
    return house


class Made(unittest.TestCase):
    def test_the_head_is_written(self):
        for work in all_works(-1, 3):
            for bounds in ((1, 1, 1), (3, 2, 4), (BIG, 5, 10)):
                store = Store()
                house = House(store, work, *bounds)
                self.assertEqual((store.whole_text(), store.asked_for()), (head_text(work, *bounds), 1))
                self.assertEqual(told_by(house), told_by(Book(work, *bounds)))

    def test_the_text_of_a_head(self):
        store = Store()
        House(store, *BOUNDS)
        self.assertEqual(store.whole_text(), HEAD)
        store = Store()
        House(store, (), 1, 2, 2)
        self.assertEqual(store.whole_text(), "work span 1 every 2 least 2\n")
        store = Store()
        House(store, ((-4, -2), (-2, 0)), 12, 1, 7)
        self.assertEqual(store.whole_text(), "work -4 -2 -2 0 span 12 every 1 least 7\n")

    def refuse(self, kind, store, *handed):
        before = (store.whole_text(), store.asked_for())
        refused(self, kind, House, store, *handed)
        self.assertEqual((store.whole_text(), store.asked_for()), before)

    def stores(self):
        """One without text, and one that has some; both fall where they are written."""
        full = Store(lambda count: 1 if count else None)
        full.write("work 0 5 span 3 every 2 least 4\n")
        return (Store(lambda count: 1), full)

    def test_wrong_work(self):
        for seat, work in enumerate(no_works()):
            with self.subTest(seat):
                for store in self.stores():
                    self.refuse(BadWork, store, work, 3, 2, 4)
                    self.refuse(BadWork, store, work, 0, None, True)

    def test_wrong_bounds(self):
        wrong = [(0, 2, 4), (-1, 2, 4), (3, 0, 4), (3, 2, 0), (3, 2, 1), (3, 2, -4), (1, 5, 4), (0, 0, 0)]
        for thing in no_wholes():
            wrong += [(thing, 2, 4), (3, thing, 4), (3, 2, thing)]
        for seat, bounds in enumerate(wrong):
            with self.subTest(seat):
                for store in self.stores():
                    self.refuse(BadBound, store, ((0, 5),), *bounds)

    def test_a_store_that_has_text(self):
        for text in (HEAD, "\n", " ", "x", "work", HEAD + "lent 1 ann 0 0\n", HEAD + "la"):
            asked = []
            store = Store(asked.append)
            store.write(text)
            self.refuse(NoBook, store, *BOUNDS)
            self.refuse(NoBook, store, (), 1, 1, 1)
            self.assertEqual(asked, [0])

    def test_a_store_that_has_a_house(self):
        store = Store()
        house = house_at(5, store)
        before = told_by(house)
        self.refuse(NoBook, store, *BOUNDS)
        self.assertEqual(told_by(house), before)
        house.join(0)

    def test_a_store_that_was_asked_but_has_no_text(self):
        store = Store(lambda count: -1 if count < 3 else None)
        for count in range(3):
            refused(self, Fallen, House, store, *BOUNDS)
            self.assertEqual((store.whole_text(), store.asked_for()), ("", count + 1))
        store.write("")
        house = House(store, *BOUNDS)
        self.assertEqual((store.whole_text(), store.asked_for()), (HEAD, 5))
        self.assertEqual(house.lend("ann", 1), (0, 0, 0, 12, 4))

    def test_a_head_that_falls(self):
        for signs in range(-2, len(HEAD) + 3):
            store = Store(lambda count: signs if count == 0 else None)
            refused(self, Fallen, House, store, *BOUNDS)
            stays = HEAD[:max(0, signs)]
            self.assertEqual((store.whole_text(), store.asked_for()), (stays, 1))
            if signs < len(HEAD):
                refused(self, NoBook, come_up, store)
            else:
                self.assertEqual(told_by(come_up(store)), told_by(Book(*BOUNDS)))
            self.assertEqual((store.whole_text(), store.asked_for()), (stays, 1))
            if stays:
                self.refuse(NoBook, store, *BOUNDS)
            else:
                House(store, *BOUNDS)
                self.assertEqual((store.whole_text(), store.asked_for()), (HEAD, 2))


class Deeds(unittest.TestCase):
    def test_each_deed_writes_its_line_and_tells_as_the_book(self):
        store, book, text = Store(), Book(*BOUNDS), HEAD
        house = House(store, *BOUNDS)
        for count, (deed, line, told) in enumerate(ROW):
            self.assertEqual(done(house, deed), (None, told), deed)
            self.assertEqual(done(book, deed), (None, told), deed)
            text += line
            self.assertEqual((store.whole_text(), store.asked_for()), (text, count + 2))
            self.assertEqual(told_by(house), told_by(book), deed)

    def test_what_the_row_ends_in(self):
        house = house_at(len(ROW))
        self.assertEqual(told_by(house), (
            [(0, 0, 12, 4, (2, "cy", 9)), (1, 20, 25, 20, (3, "dan", 10)), (3, 25, 30, 30, None)], 8,
            [(0, (70, 71, 72, -73)), (25, (5, 6, 7, 8, 9))], ((4, 12), (20, 25))))

    def test_numbers_stand_in_the_line_as_they_were_handed_in(self):
        store = Store()
        house = House(store, ((0, 6),), 5, 4, 4)
        house.lend("ann", 0)
        house.tell(0, 0, (50, 51, 52), 0)
        house.give_back(0, 0)
        house.cut(0, 4)
        house.lend("bob", 0)
        house.lend("cy", 0)
        before = len(store.whole_text())
        # All but one are told already, or lie beyond the cut.
        self.assertEqual(house.tell(2, 1, (51, 52, 53, 54, 55), 1), (4, 4, None))
        self.assertEqual(store.whole_text()[before:], "told 1 2 1 51 52 53 54 55\n")
        self.assertEqual(house.all_results(), [(0, (50, 51, 52, 53))])
        self.assertEqual(told_by(come_up(store)), told_by(house))

    def test_a_lending_of_none_writes_nothing(self):
        for work, count in (((), 0), (((0, 3),), 1), (((0, 3), (5, 6)), 2)):
            store = Store()
            house = House(store, work, 3, 2, 2)
            for _ in range(count):
                house.lend("ann", 2)
            before = (store.whole_text(), store.asked_for(), told_by(house))
            for moment in (2, 3, 5):
                self.assertIsNone(house.lend("bob", moment))
                self.assertEqual((store.whole_text(), store.asked_for(), told_by(house)), before)
            refused(self, BadWorker, house.lend, "Bob", 2)
            refused(self, BadMoment, house.lend, "bob", -1)

    def test_questions_write_nothing(self):
        asked = []
        store = Store(asked.append)
        house = house_at(9, store)
        text, count, told = store.whole_text(), len(asked), told_by(house)
        for _ in range(3):
            self.assertEqual(told_by(house), told)
        self.assertEqual((store.whole_text(), len(asked)), (text, count))

    def test_told_lists_are_the_askers_own(self):
        house = house_at(9)
        told = told_by(house)
        for ask in (house.pieces, house.all_results):
            self.assertIs(type(ask()), list)
            ask().clear()
            ask().append("more")
            self.assertIsNot(ask(), ask())
        self.assertEqual(told_by(house), told)
        for piece in house.pieces():
            self.assertIs(type(piece), tuple)
            self.assertIn(type(piece[4]), (tuple, type(None)))
        self.assertEqual({(type(row), type(row[1])) for row in house.all_results()}, {(tuple, tuple)})
        self.assertEqual({type(part) for part in (house.left_work(), *house.left_work())}, {tuple})

    def test_nothing_comes_back(self):
        house = house_at(3)
        self.assertIsNone(house.give_back(0, 2))
        self.assertIsNone(house.cut(0, 9))
        self.assertIsNone(house.join(0))


class Refused(unittest.TestCase):
    """The house of the first eleven deeds: pieces 0 and 1 are lent by tokens 2 and 3, moment 7, the marks 4 and 20."""

    def setUp(self):
        self.store = Store()
        self.house = house_at(11, self.store)
        self.before = (self.store.whole_text(), self.store.asked_for(), told_by(self.house))

    def refuse(self, kind, name, *handed):
        refused(self, kind, getattr(self.house, name), *handed)
        self.assertEqual((self.store.whole_text(), self.store.asked_for(), told_by(self.house)), self.before)

    def test_lend(self):
        for seat, thing in enumerate(no_workers()):
            with self.subTest(seat):
                self.refuse(BadWorker, "lend", thing, 7)
                self.refuse(BadWorker, "lend", thing, True)
        for seat, thing in enumerate(no_wholes() + [6, 0, -1, -BIG]):
            with self.subTest(seat):
                self.refuse(BadMoment, "lend", "ann", thing)

    def test_tell(self):
        for seat, thing in enumerate(no_wholes()):
            with self.subTest(seat):
                self.refuse(BadMoment, "tell", thing, thing, thing, thing)
                self.refuse(NoLending, "tell", thing, thing, thing, 7)
                self.refuse(BadTelling, "tell", 2, thing, (), 7)
        for seat, thing in enumerate(no_numbers()):
            with self.subTest(seat):
                self.refuse(BadTelling, "tell", 2, 4, thing, 7)
        self.refuse(BadMoment, "tell", 2, 4, (1,), 6)
        self.refuse(NoLending, "tell", 4, 4, (1,), 7)
        self.refuse(NoLending, "tell", -1, 4, (1,), 7)
        for token in (0, 1):
            self.refuse(Lost, "tell", token, 4, (1,), 7)
        for place, numbers in ((5, ()), (-1, ()), (4, (1, 2, 3, 4)), (3, (-73, 1, 2, 3, 4))):
            self.refuse(BadTelling, "tell", 2, place, numbers, 7)
        self.refuse(Otherwise, "tell", 2, 3, (73, 1), 7)
        self.refuse(Otherwise, "tell", 2, 0, (70, 71, 71), 7)

    def test_give_back(self):
        for seat, thing in enumerate(no_wholes()):
            with self.subTest(seat):
                self.refuse(BadMoment, "give_back", thing, thing)
                self.refuse(NoLending, "give_back", thing, 7)
        self.refuse(BadMoment, "give_back", 2, 6)
        self.refuse(NoLending, "give_back", 4, 7)
        self.refuse(Lost, "give_back", 0, 7)
        self.refuse(Lost, "give_back", 1, 7)

    def test_cut_and_join(self):
        for seat, thing in enumerate(no_wholes() + [-1, 2, 3, BIG]):
            with self.subTest(seat):
                self.refuse(NoPiece, "cut", thing, thing)
                self.refuse(NoPiece, "join", thing)
        for seat, thing in enumerate(no_wholes() + [-1, 0, 4, 5, 6, 12, 13]):
            with self.subTest(seat):
                self.refuse(BadCut, "cut", 0, thing)
        self.refuse(BadJoin, "join", 0)
        self.refuse(BadJoin, "join", 1)

    def test_right_ones_are_taken_still(self):
        self.house.cut(0, 7)
        refused(self, BadJoin, self.house.join, 1)
        self.house.join(0)
        self.assertEqual(self.house.tell(2, 3, (-73, 1, 2, 3), 7), (7, 12, 10))
        self.assertEqual(self.store.whole_text(), self.before[0] + "cut 0 7\njoin 0\ntold 7 2 3 -73 1 2 3\n")


class Beside(unittest.TestCase):
    def test_long_rows(self):
        for bounds, dice in rows(48):
            store, book, plain = Store(), Book(*bounds), PlainBook(*bounds)
            house, text, count = House(store, *bounds), head_text(*bounds), 1
            for _ in range(60):
                deed = next_deed(dice, plain)
                plain.do(deed)
                answer = done(book, deed)
                self.assertEqual(done(house, deed), answer, deed)
                line = None if answer[0] else line_of(deed, answer[1])
                if line is not None:
                    text, count = text + line_text(line), count + 1
                self.assertEqual((store.whole_text(), store.asked_for()), (text, count), deed)
                self.assertEqual(told_by(house), told_by(book), deed)

    def test_houses_know_nothing_of_one_another(self):
        one, other = house_at(4), house_at(4)
        before = told_by(other)
        one.cut(0, 9)
        one.lend("ann", 9)
        self.assertEqual(told_by(other), before)

    def test_sizes(self):
        def whole_row():
            store = Store()
            house = House(store, ((0, 1600),), 5, 1, 1)
            for place in range(8, 1600, 8):
                house.cut(house.pieces()[-1][0], place)
            for step in range(200):
                house.lend("ann", step)
            for step in range(1200):
                piece = house.pieces()[step % 200]
                house.tell(piece[4][0], piece[3], (step,), 200 + step)
            return told_by(house), told_by(come_up(store)), store.asked_for()

        told, again, count = in_short_time(self, whole_row, 30)
        self.assertEqual(told, again)
        self.assertEqual((count, len(told[0]), len(told[3])), (1600, 200, 200))


if __name__ == "__main__":
    unittest.main()
