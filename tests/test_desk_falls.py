"""The desk where writings fall, and where its house comes up."""

import unittest

from lentwork.desks import Desk
from lentwork.errors import BadBound, BadMoment, BadWork, Down, Fallen, NoLending, NoLine, NoText
from lentwork.houses import House, Store, come_up
from tests.support import BIG, PlainBook, done, in_short_time, next_deed, refused, rows
from tests.test_desks import BOOK, TALK, desk_at, known


class Falls(unittest.TestCase):
    def test_at_each_place_of_each_line(self):
        for count, (line, answer, written) in enumerate(TALK):
            for signs in (-BIG, -1, *range(len(written) + 2), BIG):
                desk = desk_at(count)
                text = desk.say("text")
                self.assertEqual(desk.say(f"fall {signs}"), "ok")
                self.assertEqual(desk.say(line), "fallen")
                stays = written[:max(0, signs)]
                self.check_down(desk, text + stays, stays not in ("", written), count)
                self.assertEqual(desk.say("come"), "ok")
                self.assertEqual(known(desk), known(desk_at(count + (stays == written))))

    def check_down(self, desk, text, torn, count):
        whole = text.count("\n")
        self.assertEqual(known(desk), [text, f"{whole} torn" if torn else "right", Down, Down, Down])

    def test_the_falling_is_used_up(self):
        for count, (line, answer, written) in enumerate(TALK):
            desk = desk_at(count)
            desk.say("fall 3")
            self.assertEqual(desk.say(line), "fallen")
            desk.say("come")
            for line, answer, written in TALK[count:]:
                self.assertEqual(desk.say(line), answer)
            self.assertEqual(known(desk), known(desk_at(len(TALK))))

    def test_a_later_one_takes_its_place(self):
        for first, second in ((3, 7), (7, 3), (99, 0), (0, 99), (4, -4)):
            desk = desk_at(4)
            for signs in (first, first, second):
                self.assertEqual(desk.say(f"fall {signs}"), "ok")
            self.assertEqual(desk.say("cut 0 9"), "fallen")
            self.assertEqual(desk.say("text"), desk_at(4).say("text") + "cut 0 9\n"[:max(0, second)])
            desk.say("come")
            self.assertEqual(desk.say("cut 0 8"), "ok")

    def test_it_stays_till_a_writing(self):
        desk = Desk()
        desk.say("book 9 1 1 0 1")
        desk.say("lend ann 1")
        desk.say("fall 2")
        for line, answer in (("lend bob 1", "none"), ("pieces", "0 0 1 0 0 ann 10"), ("results", ""), ("left", "0 1"),
                             ("judge", "right"), ("come", "ok"), ("lend bob 5", "none"), ("come", "ok")):
            self.assertEqual(desk.say(line), answer)
        for kind, line in ((NoLine, "x"), (NoLine, "back 0"), (NoText, "back 0 x"), (BadMoment, "back 0 0"),
                           (NoLending, "back 1 1"), (BadWork, "book 9 1 1 1 0"), (BadBound, "book 9 1 0 0 1"),
                           (NoText, "fall x"), (NoLine, "fall"), (NoLine, "fall 3 3")):
            refused(self, kind, desk.say, line)
        self.assertEqual(desk.say("back 0 1"), "fallen")
        self.assertEqual(desk.say("text"), "work 0 1 span 9 every 1 least 1\nlent 1 ann 0 0\nba")

    def test_it_is_this_stores_alone(self):
        desk = desk_at(4)
        desk.say("fall 3")
        self.assertEqual(desk.say(BOOK), "ok")
        for line, answer, written in TALK:
            self.assertEqual(desk.say(line), answer)
        self.assertEqual(known(desk), known(desk_at(len(TALK))))

    def test_told_while_the_house_is_down(self):
        desk = desk_at(4)
        for signs in (3, 5, 0):
            desk.say(f"fall {signs}")
            desk.say("come")
            self.assertEqual(desk.say("cut 0 9"), "fallen")
            desk.say("fall 1")
            desk.say(f"fall {signs + 1}")
            desk.say("come")
            self.assertEqual(known(desk), known(desk_at(4)))
            self.assertEqual(desk.say("cut 0 9"), "fallen")
            self.assertEqual(desk.say("text"), desk_at(4).say("text") + "cut 0 9"[:signs + 1])
        desk.say("come")
        self.assertEqual(desk.say("cut 0 9"), "ok")
        self.assertEqual(known(desk), known(desk_at(5)))


class DownDesk(unittest.TestCase):
    def setUp(self):
        self.desk = desk_at(4)
        self.desk.say("fall 3")
        self.desk.say("cut 0 9")
        self.text = desk_at(4).say("text") + "cut"

    def test_deeds_and_questions(self):
        for line in ("lend ann 7", "lend Ann 7", "lend ann -1", "lend ann 0", "tell 0 2 7 5", "tell 9 9 9", "back 0 7",
                     "back 9 -9", "cut 0 9", "cut 9 9", "join 0", "join 9", "pieces", "results", "left"):
            refused(self, Down, self.desk.say, line)
            self.assertEqual((self.desk.say("text"), self.desk.say("judge")), (self.text, "5 torn"))

    def test_no_line_and_no_text_come_first(self):
        for line in ("lend ann", "tell 0 2", "back 0", "cut 0", "join", "pieces 1", "results x", "left ", " join 0",
                     "x", None):
            refused(self, NoLine, self.desk.say, line)
        for line in ("lend ann x", "tell 0 2 x", "tell 0 2 7 x", "back 0 x", "cut x 9", "join 01", "fall -0"):
            refused(self, NoText, self.desk.say, line)
        self.assertEqual(self.desk.say("text"), self.text)

    def test_a_new_book(self):
        for kind, line in ((BadWork, "book 3 3 4 5 5"), (BadBound, "book 3 3 2 5 6"), (NoLine, "book 3 3 4 5")):
            refused(self, kind, self.desk.say, line)
            self.assertEqual(known(self.desk), [self.text, "5 torn", Down, Down, Down])
        self.assertEqual(self.desk.say(BOOK), "ok")
        self.assertEqual(known(self.desk), known(desk_at(0)))

    def test_come(self):
        for line in ("come x", "come 1", " come", "come ", "comes"):
            refused(self, NoLine, self.desk.say, line)
        refused(self, Down, self.desk.say, "pieces")
        self.assertEqual(self.desk.say("come"), "ok")
        self.assertEqual(known(self.desk), known(desk_at(4)))

    def test_come_while_it_is_up(self):
        for count in range(len(TALK) + 1):
            desk = desk_at(count)
            for _ in range(2):
                self.assertEqual(desk.say("come"), "ok")
                self.assertEqual(known(desk), known(desk_at(count)))
            for line, answer, written in TALK[count:]:
                self.assertEqual(desk.say(line), answer)
            self.assertEqual(known(desk), known(desk_at(len(TALK))))


def said(deed):
    """The line that tells a deed to the desk."""
    name, *parts = deed
    if name == "tell":
        parts = [parts[0], parts[1], parts[3], *parts[2]]
    return " ".join(map(str, ["back" if name == "give_back" else name, *parts]))


def answered(deed, told):
    if deed[0] == "lend":
        return "none" if told is None else "%d %d %d %d %d" % told
    if deed[0] == "tell":
        return "%d %d %s" % (told[0], told[1], "done" if told[2] is None else told[2])
    return "ok"


def shown(house):
    """What the desk answers of its house."""
    pieces = "\n".join("%d %d %d %d " % piece[:4] + (
        "%d %s %d" % piece[4] if piece[4] else "done" if piece[2] == piece[3] else "free") for piece in house.pieces())
    results = "\n".join(" ".join(map(str, (low, *numbers))) for low, numbers in house.all_results())
    return [pieces, results, " ".join("%d %d" % stretch for stretch in house.left_work())]


class Beside(unittest.TestCase):
    def one_deed(self, desk, house, deed):
        kind, told = done(house, deed)
        if kind not in (None, Fallen):
            refused(self, kind, desk.say, said(deed))
        else:
            self.assertEqual(desk.say(said(deed)), "fallen" if kind else answered(deed, told))
        return kind is Fallen

    def test_long_rows(self):
        """A desk beside a house that falls at the same places."""
        count = 0
        for bounds, dice in rows(48):
            desk, plain, falls = Desk(), PlainBook(*bounds), {}
            store = Store(falls.get)
            house = House(store, *bounds)
            self.assertEqual(desk.say(" ".join(map(str, ["book", *bounds[1:], *sum(bounds[0], ())]))), "ok")
            for _ in range(50):
                deed, text = next_deed(dice, plain), store.whole_text()
                if not dice.randrange(5):
                    falls[store.asked_for()] = dice.randrange(-1, 24)
                    self.assertEqual(desk.say(f"fall {falls[store.asked_for()]}"), "ok")
                if self.one_deed(desk, house, deed):
                    count += 1
                    house = come_up(store)
                    self.assertEqual(desk.say("come"), "ok")
                if store.whole_text() != text:
                    plain.do(deed)
                self.assertEqual([desk.say(line) for line in ("pieces", "results", "left")], shown(house))
                self.assertEqual((desk.say("text"), desk.say("judge")), (store.whole_text(), "right"))
        self.assertGreater(count, 100)

    def test_sizes(self):
        desk = Desk()
        desk.say("book 3 1 1 0 1600")

        def talk():
            for step in range(199):
                desk.say(f"cut {step} {8 * step + 8}")
            for step in range(200):
                desk.say(f"lend a {step}")
            for place in range(1600):
                desk.say(f"tell {place // 8} {place} 200 {-place}")
            desk.say("come")
            return desk.say("judge"), desk.say("left"), desk.say("results"), desk.say("pieces").count("\n")

        results = "0 " + " ".join(str(-place) for place in range(1600))
        self.assertEqual(in_short_time(self, talk, 30), ("right", "", results, 199))


if __name__ == "__main__":
    unittest.main()
