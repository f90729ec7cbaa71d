"""Stores of text that may fall amid a writing, and houses: books that write each change as a line ahead of it."""

from lentwork.books import Book, check_worker
from lentwork.errors import Down, Fallen, LentError, NoBook
from lentwork.lines import do_line
from lentwork.texts import head_text, line_text, read_text


class Store:
    def __init__(self, fall=None):
        self.fall = fall
        self.text = ""
        self.asked = 0

    def write(self, text):
        asked = self.asked
        self.asked = asked + 1
        fall = self.fall
        signs = None if fall is None else fall(asked)
        if signs is None:
            self.text += text
        else:
            # A count below 0 would take signs away from the end of a slice.
            self.text += text[:max(0, signs)]
            raise Fallen("the store fell amid a writing")

    def whole_text(self):
        return self.text

    def asked_for(self):
        return self.asked

    def fall_next(self, signs):
        # Bound to the count of the next writing, it falls at that one alone.
        asked = self.asked
        self.fall = lambda count: signs if count == asked else None

    def drop_torn(self):
        self.text = self.text[:self.text.rfind("\n") + 1]


class House:
    def __init__(self, store, work, span, every, least):
        book = Book(work, span, every, least)
        if store.whole_text():
            raise NoBook("a house is made on a store without text")
        store.write(head_text(work, span, every, least))
        self.store = store
        self.book = book
        self.down = False

    # Each deed asks its book for all that refuses it, then writes, then does: so each line that stands can be done.

    def lend(self, worker, moment):
        book = self.book_up()
        check_worker(worker)
        coming = book.coming(moment)
        if coming is None:
            return None
        self.put(("lent", moment, worker) + coming)
        return book.lend(worker, moment)

    def tell(self, token, place, numbers, moment):
        book = self.book_up()
        book.piece_to_tell(token, place, numbers, moment)
        self.put(("told", moment, token, place, numbers))
        return book.tell(token, place, numbers, moment)

    def give_back(self, token, moment):
        book = self.book_up()
        book.held_piece(token, moment)
        self.put(("back", moment, token))
        book.give_back(token, moment)

    def cut(self, number, place):
        book = self.book_up()
        book.piece_to_cut(number, place)
        self.put(("cut", number, place))
        book.cut(number, place)

    def join(self, number):
        book = self.book_up()
        book.piece_to_join(number)
        self.put(("join", number))
        book.join(number)

    def pieces(self):
        return self.book_up().pieces()

    def moment_now(self):
        return self.book_up().moment_now()

    def all_results(self):
        return self.book_up().all_results()

    def left_work(self):
        return self.book_up().left_work()

    def book_up(self):
        if self.down:
            raise Down("the house is down, since a writing fell")
        return self.book

    def put(self, line):
        try:
            self.store.write(line_text(line))
        except Fallen as fallen:
            self.down = True
            raise Fallen("the store fell amid a line") from fallen


def house_of(text):
    told = read_text(text)
    # A house writes its head where it is made: here into a store that nobody keeps.
    house = House(Store(), told[0], told[1], told[2], told[3])
    for line in told[4]:
        do_line(house.book, line)
    return house


def come_up(store):
    try:
        house = house_of(store.whole_text())
    except LentError as refusal:
        raise NoBook("the store's text is no book's, or a line of it can't be done") from refusal
    store.drop_torn()
    house.store = store
    return house
