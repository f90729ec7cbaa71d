"""Falls amid lines, houses that are down, and houses that come up."""

import unittest

from lentwork.books import Book
from lentwork.errors import BadMoment, BadTelling, Down, Fallen, LentError, Lost, NoBook
from lentwork.houses import House, Store, come_up
from lentwork.lines import do_line
from lentwork.texts import head_text, line_text, read_text
from tests.support import (
    BIG, PlainBook, Thorny, done, in_short_time, line_of, next_deed, no_wholes, refused, rows, told_by,
)

BOUNDS = (((0, 12), (20, 30)), 3, 3, 4)
ROW = (
    ("lend", "ann", 1), ("tell", 0, 0, (70, 71), 2), ("give_back", 0, 2), ("cut", 0, 9), ("join", 0),
    ("lend", "bob", 3), ("lend", "cy", 3), ("lend", "dan", 3), ("tell", 1, 1, (71, 72, -73), 4),
    ("tell", 3, 7, (), 4), ("tell", 2, 20, (90, 91, 92), 5), ("tell", 1, 4, (74, 75, 76), 6), ("lend", "eve", 8),
)


def risky_store():
    """A store, and a dict of the counts at which it falls, with the signs."""
    falls = {}
    return Store(falls.get), falls


def book_at(count):
    book = Book(*BOUNDS)
    for deed in ROW[:count]:
        done(book, deed)
    return book


def house_at(count, store):
    house = House(store, *BOUNDS)
    for deed in ROW[:count]:
        done(house, deed)
    return house


def book_of(text):
    """The book that the whole lines of a text tell; the refusals come through."""
    told = read_text(text)
    book = Book(*told[:4])
    for line in told[4]:
        do_line(book, line)
    return book


class Falling(unittest.TestCase):
    def fallen(self, count, signs):
        """The house at so many deeds, and its store, behind a fall at the next deed."""
        store, falls = risky_store()
        house = house_at(count, store)
        falls[count + 1] = signs
        refused(self, Fallen, getattr(house, ROW[count][0]), *ROW[count][1:])
        return house, store

    def lines(self):
        """Of each deed of the row the text ahead of it, and its line."""
        text, told = head_text(*BOUNDS), []
        for count, deed in enumerate(ROW):
            line = line_text(line_of(deed, done(book_at(count), deed)[1]))
            told.append((text, line))
            text += line
        return told

    def test_the_row_is_right(self):
        for count, (text, line) in enumerate(self.lines()):
            self.assertEqual(told_by(book_of(text)), told_by(book_at(count)))
            self.assertNotEqual(told_by(book_at(count)), told_by(book_at(count + 1)))

    def test_at_each_place_of_each_line(self):
        for count, (text, line) in enumerate(self.lines()):
            for signs in (-BIG, -1, *range(len(line) + 2), BIG):
                house, store = self.fallen(count, signs)
                stays = line[:max(0, signs)]
                self.assertEqual((store.whole_text(), store.asked_for()), (text + stays, count + 2))
                refused(self, Down, house.pieces)
                again = come_up(store)
                whole = stays == line
                self.assertEqual(store.whole_text(), text + line * whole)
                self.assertEqual(store.asked_for(), count + 2)
                self.assertEqual(told_by(again), told_by(book_at(count + whole)))
                refused(self, Down, house.pieces)

    def test_the_house_goes_on_behind_the_coming_up(self):
        for count, (text, line) in enumerate(self.lines()):
            for signs in (0, 1, len(line) - 1, len(line)):
                house, store = self.fallen(count, signs)
                again, whole = come_up(store), signs == len(line)
                book = book_at(count + whole)
                for deed in ROW[count + whole:]:
                    self.assertEqual(done(again, deed), done(book, deed))
                    self.assertEqual(told_by(again), told_by(book))
                self.assertEqual(store.whole_text(), "".join(self.lines()[-1]))
                self.assertEqual(store.asked_for(), len(ROW) + 2 - whole)
                # Also what they don't tell, the next token and the next number, is alike.
                self.assertEqual(again.lend("z", 500), book.lend("z", 500))
                self.assertEqual(done(again, ("cut", 1, 28)), (None, None))
                book.cut(1, 28)
                self.assertEqual(told_by(again), told_by(book))

    def test_down_ahead_of_all_else(self):
        for count in range(len(ROW)):
            house, store = self.fallen(count, 3)
            before = (store.whole_text(), store.asked_for())
            for deed in ROW:
                refused(self, Down, getattr(house, deed[0]), *deed[1:])
            for ask in (house.pieces, house.moment_now, house.all_results, house.left_work):
                refused(self, Down, ask)
            for thing in no_wholes() + [Thorny(), -1]:
                refused(self, Down, house.lend, thing, thing)
                refused(self, Down, house.tell, thing, thing, thing, thing)
                refused(self, Down, house.give_back, thing, thing)
                refused(self, Down, house.cut, thing, thing)
                refused(self, Down, house.join, thing)
            self.assertEqual((store.whole_text(), store.asked_for()), before)

    def test_a_lending_of_none_is_refused_by_a_house_that_is_down(self):
        store, falls = risky_store()
        house = House(store, ((0, 2),), 9, 1, 2)
        house.lend("ann", 1)
        falls[2] = 0
        self.assertIsNone(house.lend("bob", 1))
        refused(self, Fallen, house.give_back, 0, 1)
        refused(self, Down, house.lend, "bob", 1)

    def test_what_is_refused_does_not_fall(self):
        store, falls = risky_store()
        house = house_at(2, store)
        falls[store.asked_for()] = 0
        for kind, deed in ((BadMoment, ("lend", "ann", 1)), (BadTelling, ("tell", 0, 3, (), 2)),
                           (BadMoment, ("give_back", 0, 1))):
            self.assertEqual(done(house, deed), (kind, None))
        self.assertEqual(told_by(house), told_by(book_at(2)))
        refused(self, Fallen, house.give_back, 0, 2)

    def test_two_houses_on_two_stores(self):
        one = self.fallen(3, 2)[0]
        other = house_at(3, Store())
        refused(self, Down, one.pieces)
        self.assertEqual(told_by(other), told_by(book_at(3)))

    def test_fall_upon_fall(self):
        """Each line falls at each of its signs, and is written whole at last."""
        store, falls = risky_store()
        house = House(store, *BOUNDS)
        for count, (text, line) in enumerate(self.lines()):
            for signs in range(len(line)):
                falls[store.asked_for()] = signs
                refused(self, Fallen, getattr(house, ROW[count][0]), *ROW[count][1:])
                self.assertEqual(store.whole_text(), text + line[:signs])
                house = come_up(store)
                self.assertEqual(told_by(house), told_by(book_at(count)))
            done(house, ROW[count])
        self.assertEqual(store.whole_text(), "".join(self.lines()[-1]))

    def test_told_again_behind_a_fall(self):
        """A worker that saw the fall tells again, and nothing is lost or done twice."""
        whole = len("told 4 0 0 70 71 72\n")
        for signs in (0, 1, whole - 2, whole - 1):
            house, store, falls = self.told_and_fallen(signs)
            self.assertEqual(house.all_results(), [])
            self.assertEqual(house.tell(0, 0, (70, 71, 72), 5), (3, 12, 8))
        house, store, falls = self.told_and_fallen(whole)
        self.assertEqual(house.all_results(), [(0, (70, 71, 72))])
        self.assertEqual(house.tell(0, 0, (70, 71, 72), 5), (3, 12, 8))
        self.assertEqual(house.tell(0, 3, (73, 74, 75), 6), (6, 12, 9))
        self.assertEqual(house.tell(0, 6, (76, 77, 78), 6), (9, 12, 9))
        falls[store.asked_for()] = whole
        refused(self, Fallen, house.tell, 0, 9, (79, 80, 81), 6)
        house = come_up(store)
        refused(self, Lost, house.tell, 0, 9, (79, 80, 81), 6)
        self.assertEqual(house.pieces()[0], (0, 0, 12, 12, None))

    def told_and_fallen(self, signs):
        store, falls = risky_store()
        house = House(store, *BOUNDS)
        house.lend("ann", 1)
        falls[2] = signs
        refused(self, Fallen, house.tell, 0, 0, (70, 71, 72), 4)
        return come_up(store), store, falls


class ComingUp(unittest.TestCase):
    HEAD = "work 0 12 20 30 span 3 every 3 least 4\n"

    def store_of(self, *texts):
        store = Store()
        for text in texts:
            store.write(text)
        return store

    def check_up(self, text):
        """A house comes up as the whole lines tell."""
        store = self.store_of(text)
        house = come_up(store)
        self.assertIsInstance(house, House)
        self.assertEqual(told_by(house), told_by(book_of(text)))
        self.assertEqual((store.whole_text(), store.asked_for()), (text[:text.rfind("\n") + 1], 1))

    def check_none(self, text):
        store = self.store_of(text)
        refused(self, NoBook, come_up, store)
        self.assertEqual((store.whole_text(), store.asked_for()), (text, 1))

    def test_right_texts(self):
        for text in ("work span 1 every 1 least 1\n", self.HEAD, "work -3 -1 -1 4 span 9 every 2 least 2\n",
                     self.HEAD + "lent 1 ann 0 0\n", self.HEAD + "lent 1 ann 0 0\ntold 1 0 0\nback 1 0\n",
                     self.HEAD + "cut 0 5\ncut 0 2\njoin 0\n"):
            for torn in ("", " ", "x", "cut 1 25", "lent 1 ann 0", "join 0", "work 0 5 span 1 every 1 least 1", "-"):
                self.check_up(text + torn)

    def test_texts_that_are_no_books(self):
        for text in (
                "", "x", "\n", " \n", "\n" + self.HEAD, self.HEAD[:-1], "work 0 12 span 3 every 3 least 4", "head\n",
                " " + self.HEAD, self.HEAD.replace("12", "012"), self.HEAD[:-1] + " \n", "lent 1 ann 0 0\n",
                self.HEAD.replace("work 0 12", "work 12 0"), self.HEAD.replace("20 30", "11 30"),
                self.HEAD.replace("span 3", "span 0"), self.HEAD.replace("every 3", "every 5"),
                self.HEAD.replace("least 4", "least 2"), self.HEAD.replace("20 30", "20")):
            self.check_none(text)
            self.check_none(text + "torn")

    def test_lines_that_are_not_written_right(self):
        for line in ("", " ", "x", "cut 0", "cut 0 5 ", " cut 0 5", "cut  0 5", "cut 0 05", "lent 1 ann 0", "told 1 0",
                     "back 1", "join", "join 0 1", "Cut 0 5", "lent 1 ann 0 x", "cut 0 -0", "join +0"):
            for behind in ("", "cut 1 25\n", "torn"):
                self.check_none(self.HEAD + line + "\n" + behind)
                self.check_none(self.HEAD + "cut 1 28\n" + line + "\n" + behind)

    def test_lines_that_cannot_be_done(self):
        lent = "lent 2 ann 0 0\ntold 2 0 0 70 71\n"
        for line in (
                "lent 2 Ann 1 1", "lent 1 bob 1 1", "lent 2 bob 0 1", "lent 2 bob 1 0", "lent 2 bob 2 1",
                "told 1 0 2 72", "told 2 1 2 72", "told 2 0 3 72", "told 2 0 2 72 73 74 75", "told 2 0 1 72",
                "told 2 -1 2 72", "back 1 0", "back 2 1", "cut 2 5", "cut 0 4", "cut 0 12", "cut -1 5", "join 0",
                "join 1", "join 2"):
            for behind in ("", "cut 1 25\n", "torn"):
                self.check_none(self.HEAD + lent + line + "\n" + behind)
        self.check_up(self.HEAD + lent + "told 2 0 2 72\nlent 2 bob 1 1\nback 2 0\n")
        self.check_none(self.HEAD + lent + "back 2 0\nback 2 0\n")
        self.check_none(self.HEAD + lent + "back 2 0\ntold 2 0 2 72\n")

    def test_texts_that_are_written_in_parts(self):
        store = self.store_of("work 0 12 20 30 sp", "an 3 every 3 least 4\nlent 1 a", "nn 0 0\ntold 1 0", "")
        self.assertEqual(come_up(store).pieces()[0], (0, 0, 12, 0, (0, "ann", 4)))
        self.assertEqual((store.whole_text(), store.asked_for()), (self.HEAD + "lent 1 ann 0 0\n", 4))

    def test_no_fall_is_asked(self):
        asked = []
        store = Store(asked.append)
        store.write(self.HEAD + "cut 0 5\ncut")
        house = come_up(store)
        self.assertEqual(asked, [0])
        house.cut(0, 3)
        self.assertEqual((asked, store.whole_text()), ([0, 1], self.HEAD + "cut 0 5\ncut 0 3\n"))

    def test_falls_behind_the_coming_up(self):
        store, falls = risky_store()
        store.write(self.HEAD + "cut 0 5\ncut")
        house = come_up(store)
        falls[1] = 2
        refused(self, Fallen, house.join, 0)
        self.assertEqual(store.whole_text(), self.HEAD + "cut 0 5\njo")
        refused(self, Down, house.pieces)
        self.assertEqual([piece[:3] for piece in come_up(store).pieces()], [(0, 0, 5), (2, 5, 12), (1, 20, 30)])

    def test_coming_up_again_and_again(self):
        store = Store()
        house = house_at(len(ROW), store)
        told, text = told_by(house), store.whole_text()
        for _ in range(3):
            house = come_up(store)
            self.assertEqual((told_by(house), store.whole_text()), (told, text))
        self.assertEqual(store.asked_for(), len(ROW) + 1)

    def test_the_torn_end_is_taken_away_only_where_a_house_comes_up(self):
        store = self.store_of(self.HEAD, "join 0\n", "cut 0")
        refused(self, NoBook, come_up, store)
        self.assertEqual(store.whole_text(), self.HEAD + "join 0\ncut 0")

    def test_sizes(self):
        text = "work 0 1600 span 3 every 1 least 1\n"
        text += "".join(f"cut {step} {8 * step + 8}\n" for step in range(199))
        text += "".join(f"lent 1 a {step} {step}\n" for step in range(200))
        text += "".join(f"told 1 {place // 8} {place} {-place}\n" for place in range(1600))
        house = in_short_time(self, lambda: come_up(self.store_of(text)), 30)
        self.assertEqual((len(house.pieces()), house.left_work()), (200, ()))
        self.assertEqual(house.all_results(), [(0, tuple(-place for place in range(1600)))])


class Prefixes(unittest.TestCase):
    def test_each_beginning_of_a_text(self):
        for bounds, dice in rows(12):
            store, plain = Store(), PlainBook(*bounds)
            house, told = House(store, *bounds), {}
            told[len(store.whole_text())] = told_by(house)
            for _ in range(30):
                deed = next_deed(dice, plain)
                plain.do(deed)
                done(house, deed)
                told[len(store.whole_text())] = told_by(house)
            text = store.whole_text()
            for signs in range(len(text) + 1):
                self.check_beginning(text[:signs], told)

    def check_beginning(self, text, told):
        store = Store()
        store.write(text)
        whole = text.rfind("\n") + 1
        if not whole:
            return refused(self, NoBook, come_up, store)
        self.assertEqual(told_by(come_up(store)), told[whole])
        self.assertEqual((store.whole_text(), store.asked_for()), (text[:whole], 1))


class RowsWithFalls(unittest.TestCase):
    """Beside a book that never fell: what is whole in the store is done, and nothing else."""

    def test_long_rows(self):
        fell = {True: 0, False: 0}
        for bounds, dice in rows(60):
            book, plain = Book(*bounds), PlainBook(*bounds)
            store, falls = risky_store()
            house = House(store, *bounds)
            for _ in range(60):
                deed = next_deed(dice, plain)
                text = store.whole_text()
                if not dice.randrange(3):
                    falls[store.asked_for()] = dice.choice((-1, 0, 1, 5, 9, 12, 15, 18, 25, 99))
                try:
                    answer = (None, getattr(house, deed[0])(*deed[1:]))
                except Fallen:
                    house = come_up(store)
                    whole = store.whole_text() != text
                    fell[whole] += 1
                    if whole:
                        done(book, deed)
                        plain.do(deed)
                except LentError as refusal:
                    self.assertEqual(done(book, deed), (type(refusal), None))
                else:
                    self.assertEqual(answer, done(book, deed))
                    plain.do(deed)
                falls.clear()
                self.assertEqual(told_by(house), told_by(book), deed)
            self.assertEqual(told_by(house), told_by(book_of(store.whole_text())))
        self.assertTrue(min(fell.values()) > 100, fell)


if __name__ == "__main__":
    unittest.main()
