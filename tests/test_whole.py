"""The promise over the whole: rows of deeds with silences, falls and comings up, until all is done."""

import random
import unittest

from lentwork.books import Book
from lentwork.desks import Desk
from lentwork.errors import Fallen, Lost
from lentwork.houses import House, Store, come_up
from lentwork.judges import judged
from lentwork.lines import do_line
from lentwork.runs import run
from lentwork.texts import read_text
from tests.support import BOOKS, done, places_of, runs_of, told_by


def doing(place):
    return 3 * place * place - 5 * place


def laid_in(house):
    return {at: number for low, numbers in house.all_results() for at, number in enumerate(numbers, start=low)}


class Hands:
    """Workers that know only what they were told; a house that falls now and then, and comes up."""

    def __init__(self, bounds, dice):
        self.bounds, self.dice, self.moment, self.falls = bounds, dice, 0, {}
        self.store = Store(self.falls.get)
        self.house = House(self.store, *bounds)
        self.held, self.told, self.fell = {}, [], 0

    def do(self, *deed):
        """The deed, again and again until it does not fall; told is what done() tells of the last one."""
        while True:
            if not self.dice.randrange(6):
                self.falls[self.store.asked_for()] = self.dice.randrange(-1, 40)
            answer = done(self.house, deed)
            self.falls.clear()
            self.told.append((deed, answer))
            if answer[0] is not Fallen:
                return answer
            self.fell += 1
            self.house = come_up(self.store)

    def lend(self, worker):
        lent = self.do("lend", worker, self.moment)[1]
        if lent is not None:
            self.held[worker] = (lent[0], lent[2])

    def tell(self, worker):
        """As far as it likes, from as far back as it likes; where the lending is gone it is dropped."""
        token, mark = self.held[worker]
        low = min([piece[1] for piece in self.house.pieces() if piece[1] <= mark <= piece[2]], default=mark)
        place = max(low, mark - self.dice.randrange(3))
        count = mark - place + self.dice.randrange(self.bounds[2] + 1)
        refusal, told = self.do("tell", token, place, tuple(map(doing, range(place, place + count))), self.moment)
        if refusal is None and told[2] is not None:
            self.held[worker] = (token, told[0])
        else:
            self.held.pop(worker)

    def step(self):
        worker = self.dice.choice(("ann", "bob", "cy"))
        kind = self.dice.randrange(12)
        number, low, high = self.dice.choice(self.house.pieces())[:3]
        self.moment += self.dice.choice((0, 0, 0, 1, 1, 2, self.bounds[1] + 1))
        if kind == 0:
            self.do("cut", number, self.dice.randrange(low, high + 1))
        elif kind == 1:
            self.do("join", number)
        elif worker not in self.held:
            self.lend(worker)
        elif kind == 2:
            self.do("give_back", self.held.pop(worker)[0], self.moment)
        elif kind > 3:
            self.tell(worker)


class UntilAllIsDone(unittest.TestCase):
    def test_all_the_same(self):
        """Once, from the mark, coming up, all the same, judged: of each row that is done until nothing is left."""
        met, fell = set(), 0
        for seed in range(48):
            hands, old, steps = Hands(BOOKS[seed % len(BOOKS)], random.Random(seed)), {}, 0
            while hands.house.left_work():
                hands.step()
                new = laid_in(hands.house)
                self.assertEqual({at: new.get(at) for at in old}, old)
                old, steps = new, steps + 1
                self.assertLess(steps, 5000)
            self.assertEqual(hands.house.all_results(), runs_of({at: doing(at) for at in places_of(hands.bounds[0])}))
            self.assertTrue(all(piece[3] == piece[2] and piece[4] is None for piece in hands.house.pieces()))
            self.check_text(hands)
            met |= {(deed[0], answer[0]) for deed, answer in hands.told}
            fell += hands.fell
        self.assertGreater(fell, 200)
        for name in ("lend", "tell", "give_back", "cut", "join"):
            self.assertLessEqual({(name, None), (name, Fallen)}, met)
        self.assertIn(("tell", Lost), met)

    def check_text(self, hands):
        """The text is a right house's; its lines, done again, give each place its result once, by one lending."""
        text = hands.store.whole_text()
        self.assertIsNone(judged(text))
        told = read_text(text)
        book, laid = Book(*told[:4]), {}
        for line in told[4]:
            before = {piece[4][0]: piece for piece in book.pieces() if piece[4] is not None}
            do_line(book, line)
            fresh = {at: number for at, number in laid_in(book).items() if at not in laid}
            if line[0] == "told":
                piece = before[line[2]]
                own = {at: number for at, number in enumerate(line[4], start=line[3]) if piece[3] <= at < piece[2]}
                self.assertEqual(fresh, own)
            else:
                self.assertEqual(fresh, {})
            laid.update(fresh)
        self.assertEqual(told_by(book), told_by(hands.house))


class ByAllWays(unittest.TestCase):
    """One work and one doing: by books, houses, desks and runs the results are the same."""

    WORK = ((-3, 8), (8, 11), (20, 29))

    def right(self):
        return runs_of({at: doing(at) for at in places_of(self.WORK)})

    def test_a_run(self):
        for span, every, least in ((1, 1, 1), (2, 3, 4), (9, 2, 30)):
            for plan in ((("a", 1, ()),), (("a", 1, ((2, 9),)), ("b", 3, ())),
                         (("a", 2, ((3, 5), (7, 20))), ("b", 1, ()))):
                told = run(self.WORK, span, every, least, plan, doing, 500)
                self.assertEqual(told[3], self.right())
                text = "work -3 8 8 11 20 29 span %d every %d least %d\n" % (span, every, least)
                store = Store()
                store.write(text)
                house = come_up(store)
                for line in told[4]:
                    if line[0] == "lent":
                        self.assertEqual(house.lend(line[2], line[1])[:2], line[3:])
                    else:
                        house.tell(line[2], line[3], line[4], line[1])
                self.assertEqual(house.all_results(), self.right())

    def test_a_desk(self):
        for every in (1, 2, 5):
            desk, moment = Desk(), 0
            desk.say(f"book 2 {every} {every} -3 8 8 11 20 29")
            while desk.say("left"):
                moment += 1
                if moment % 4 == 0:
                    desk.say(f"fall {moment % 7}")
                self.worker_turn(desk, moment, every)
            self.assertEqual(desk.say("results"), "\n".join(
                " ".join(map(str, (low, *numbers))) for low, numbers in self.right()))
            self.assertEqual(desk.say("judge"), "right")

    def worker_turn(self, desk, moment, every):
        answer = desk.say(f"lend w {moment}")
        if answer == "none":
            return
        if answer != "fallen":
            token, number, mark, high, until = map(int, answer.split())
            told = " ".join(str(doing(at)) for at in range(mark, mark + every))
            answer = desk.say(f"tell {token} {mark} {moment} {told}")
        if answer == "fallen":
            self.assertEqual(desk.say("come"), "ok")


if __name__ == "__main__":
    unittest.main()
