import unittest

from lentwork.desks import Desk
from lentwork.errors import (
    BadBound, BadCut, BadJoin, BadMoment, BadTelling, BadWork, BadWorker, Down, Lost, NoLending, NoLine, NoPiece,
    NoText, Otherwise,
)
from tests.support import BIG, no_texts, refused

BOOK = "book 3 3 4 0 12 20 30"
HEAD = "work 0 12 20 30 span 3 every 3 least 4\n"

# Lines with their answers, and what each writes.
TALK = (
    ("lend ann 1", "0 0 0 12 4", "lent 1 ann 0 0\n"),
    ("tell 0 0 2 70 -71", "2 12 5", "told 2 0 0 70 -71\n"),
    ("tell 0 2 2", "2 12 5", "told 2 0 2\n"),
    ("back 0 2", "ok", "back 2 0\n"),
    ("cut 0 9", "ok", "cut 0 9\n"),
    ("join 0", "ok", "join 0\n"),
    ("lend bob 3", "1 0 2 12 6", "lent 3 bob 1 0\n"),
    ("lend cy 3", "2 1 20 30 6", "lent 3 cy 2 1\n"),
    ("lend dan 3", "3 3 7 12 6", "lent 3 dan 3 3\n"),
    ("tell 3 7 4 1 2 3", "10 12 7", "told 4 3 7 1 2 3\n"),
    ("tell 3 9 5 3 4 5", "12 12 done", "told 5 3 9 3 4 5\n"),
    ("lend eve 7", "4 1 20 30 10", "lent 7 eve 4 1\n"),
)
NUMBERS_AMISS = ("x", "01", "-0", "00", "+1", "1.0", "1-", "--1", "-", "1,", "0x1", "1" * 19, "-" + "1" * 19, "none")


def desk_at(count):
    desk = Desk()
    desk.say(BOOK)
    for line, answer, written in TALK[:count]:
        desk.say(line)
    return desk


def known(desk):
    """All that a desk answers, also where its house is down."""
    told = []
    for line in ("text", "judge", "pieces", "results", "left"):
        try:
            told.append(desk.say(line))
        except Down:
            told.append(Down)
    return told


class Said(unittest.TestCase):
    def test_the_talk(self):
        desk, text = Desk(), HEAD
        self.assertEqual(desk.say(BOOK), "ok")
        for line, answer, written in TALK:
            self.assertEqual(desk.say(line), answer, line)
            text += written
            self.assertEqual(desk.say("text"), text, line)
            self.assertEqual(desk.say("judge"), "right")

    def test_pieces_results_left(self):
        desk = desk_at(len(TALK))
        self.assertEqual(desk.say("pieces"), "0 0 7 2 1 bob 6\n3 7 12 12 done\n1 20 30 20 4 eve 10")
        self.assertEqual(desk.say("results"), "0 70 -71\n7 1 2 3 4 5")
        self.assertEqual(desk.say("left"), "2 7 20 30")
        desk = desk_at(5)
        self.assertEqual(desk.say("pieces"), "0 0 9 2 free\n2 9 12 9 free\n1 20 30 20 free")
        self.assertEqual(desk.say("results"), "0 70 -71")
        self.assertEqual(desk.say("left"), "2 12 20 30")

    def test_nothing_to_tell(self):
        desk = Desk()
        desk.say("book 1 1 1")
        self.assertEqual([desk.say(line) for line in ("pieces", "results", "left", "lend a 0", "judge", "text")],
                         ["", "", "", "none", "right", "work span 1 every 1 least 1\n"])
        desk.say("book 5 1 1 0 1")
        self.assertEqual([desk.say(line) for line in ("pieces", "results", "left")], ["0 0 1 0 free", "", "0 1"])
        desk.say("lend a 0")
        self.assertEqual(desk.say("lend b 0"), "none")
        self.assertEqual(desk.say("tell 0 0 0 7"), "1 1 done")
        self.assertEqual([desk.say(line) for line in ("pieces", "results", "left")], ["0 0 1 1 done", "0 7", ""])
        self.assertEqual(desk.say("text"), "work 0 1 span 5 every 1 least 1\nlent 0 a 0 0\ntold 0 0 0 7\n")

    def test_numbers_below_zero_and_great_ones(self):
        desk, most = Desk(), 10 ** 18 - 1
        self.assertEqual(desk.say(f"book {most} 2 {most} -9 -7 {BIG} {BIG + 2}"), "ok")
        self.assertEqual(desk.say("lend abcdefgh 0"), f"0 0 -9 -7 {most}")
        self.assertEqual(desk.say(f"tell 0 -9 0 -{most} {most}"), "-7 -7 done")
        self.assertEqual(desk.say("results"), f"-9 -{most} {most}")
        self.assertEqual(desk.say("left"), f"{BIG} {BIG + 2}")
        self.assertEqual(desk.say("pieces"), f"0 -9 -7 -7 done\n1 {BIG} {BIG + 2} {BIG} free")

    def test_stretches_that_touch(self):
        desk = Desk()
        desk.say("book 3 2 2 0 2 2 5 5 6")
        self.assertEqual(desk.say("pieces"), "0 0 2 0 free\n1 2 5 2 free\n2 5 6 5 free")
        self.assertEqual((desk.say("left"), desk.say("text")), ("0 6", "work 0 2 2 5 5 6 span 3 every 2 least 2\n"))

    def test_answers_are_texts_and_questions_change_nothing(self):
        desk = desk_at(9)
        before = known(desk)
        self.assertEqual({type(answer) for answer in before}, {str})
        for _ in range(3):
            self.assertEqual(known(desk), before)

    def test_a_later_book(self):
        desk = desk_at(7)
        self.assertEqual(desk.say("book 1 1 1 5 6"), "ok")
        self.assertEqual(known(desk), ["work 5 6 span 1 every 1 least 1\n", "right", "0 5 6 5 free", "", "5 6"])
        self.assertEqual(desk.say("lend ann 0"), "0 0 5 6 1")
        desk.say(BOOK)
        self.assertEqual(known(desk), known(desk_at(0)))

    def test_two_desks(self):
        one, other = desk_at(3), Desk()
        refused(self, NoLine, other.say, "pieces")
        other.say("book 1 1 1 5 6")
        one.say("fall 2")
        self.assertEqual(other.say("lend ann 0"), "0 0 5 6 1")
        self.assertEqual(one.say("cut 0 9"), "fallen")
        self.assertEqual(other.say("pieces"), "0 5 6 5 0 ann 1")
        one.say("come")
        self.assertEqual(known(one), known(desk_at(3)))


class Refused(unittest.TestCase):
    """The desk behind the whole talk; what is refused leaves it as it was, with a falling that is told still."""

    LINES = ("book 3 3 4 0 12", "come", "lend ann 7", "tell 1 2 7 5", "back 1 7", "cut 0 5", "join 0", "fall 5",
             "pieces", "results", "left", "text", "judge")

    def setUp(self):
        self.desk = desk_at(len(TALK))
        self.desk.say("fall 5")
        self.before = known(self.desk)

    def tearDown(self):
        self.assertEqual(known(self.desk), self.before)
        self.assertEqual(self.desk.say("back 1 7"), "fallen")
        self.assertEqual(self.desk.say("text"), self.before[0] + "back ")

    def refuse(self, kind, line):
        refused(self, kind, self.desk.say, line)

    def test_what_is_no_text(self):
        for seat, thing in enumerate(no_texts() + [["pieces"], ("pieces",), b"pieces", {"pieces": 1}]):
            with self.subTest(seat):
                self.refuse(NoLine, thing)

    def test_other_words(self):
        for line in ("x", "Pieces", "PIECES", "piece", "piecess", "lent ann 7", "told 1 2 7", "give 1 7",
                     "give_back 1 7", "choice 7", "moment", "work", "bounds", "none", "ok", "3", "judged",
                     "say pieces", "head"):
            self.refuse(NoLine, line)
        for line in self.LINES:
            self.refuse(NoLine, "x " + line)
            self.refuse(NoLine, line.upper())
            self.refuse(NoLine, "0" + line)

    def test_blanks(self):
        for line in self.LINES:
            self.refuse(NoLine, " " + line)
            self.refuse(NoLine, line + " ")
            self.refuse(NoLine, line + "  ")
            for seat in [seat for seat, sign in enumerate(line) if sign == " "]:
                self.refuse(NoLine, line[:seat] + " " + line[seat:])
        for line in ("", " ", "  ", " x", "tell 1 2 7  5", "tell 1 2  5", "lend  7"):
            self.refuse(NoLine, line)

    def test_too_few_and_too_many_words(self):
        for line in ("lend", "lend ann", "lend ann 7 7", "lend ann bob 7", "tell", "tell 1", "tell 1 2", "back",
                     "back 1", "back 1 7 7", "cut", "cut 0", "cut 0 5 5", "join", "join 0 0", "fall", "fall 1 1",
                     "come 1", "come x", "pieces 0", "results 0", "left 0", "text 0", "judge 0", "judge x", "book",
                     "book 3", "book 3 3", "book 3 3 4 0", "book 3 3 4 0 12 20", "book 3 3 4 0 12 20 30 40"):
            self.refuse(NoLine, line)

    def test_too_few_words_ahead_of_numbers_amiss(self):
        for line in ("lend ann x x", "tell x x", "back x", "cut x", "join x x", "fall x x", "book x x", "book x x x x",
                     "come x", "pieces x", "lend ann x ", "cut x  5"):
            self.refuse(NoLine, line)

    def test_numbers_amiss(self):
        for word in NUMBERS_AMISS:
            for line in ("lend ann {}", "lend Ann {}", "tell {} 2 7 5", "tell 1 {} 7 5", "tell 1 2 {} 5",
                         "tell 1 2 7 {}", "tell 1 2 7 5 {}", "tell 1 2 {}", "tell 9 9 0 {} 5", "back {} 7",
                         "back 1 {}", "back 9 {}", "cut {} 5", "cut 0 {}", "cut 9 {}", "join {}", "fall {}",
                         "book {} 3 4 0 12", "book 3 {} 4 0 12", "book 3 3 {} 0 12", "book 3 3 4 {} 12",
                         "book 3 3 4 0 {}", "book 0 0 0 5 0 {} 9", "book 3 3 {}"):
                self.refuse(NoText, line.format(word))

    def test_books_refused(self):
        for line in ("book 3 3 4 0 0", "book 3 3 4 5 4", "book 3 3 4 0 12 11 30", "book 0 0 0 5 4",
                     "book 3 3 2 9 1 2 3"):
            self.refuse(BadWork, line)
        for line in ("book 0 3 4 0 12", "book 3 0 4 0 12", "book 3 3 0 0 12", "book 3 3 2", "book -1 3 4 0 12"):
            self.refuse(BadBound, line)

    def test_deeds_refused(self):
        for kind, lines in (
                (BadWorker, ("lend Ann 7", "lend 7 7", "lend abcdefghi 7", "lend a_b 0", "lend ann, 7", "lend ~ 7",
                             "lend -1 -1")),
                (BadMoment, ("lend ann 6", "lend ann -7", "tell 1 2 6 5", "tell 9 9 6 5", "back 1 6", "back 9 -1")),
                (NoLending, ("tell 5 2 7 5", "tell -1 99 7 5", "back 5 7", "back -1 7")),
                (Lost, ("tell 0 2 7 5", "tell 2 20 7 5", "tell 3 99 7", "back 0 7", "back 2 7", "back 3 9")),
                (BadTelling, ("tell 1 3 7 5", "tell 1 -1 7", "tell 1 2 7 1 2 3 4", "tell 4 19 7")),
                (Otherwise, ("tell 1 0 7 71", "tell 1 0 7 70 71 5", "tell 1 1 7 71")),
                (NoPiece, ("cut 2 5", "cut 4 5", "cut -1 5", "join 2", "join -1")),
                (BadCut, ("cut 0 2", "cut 0 4", "cut 0 7", "cut 3 9", "cut 1 22")),
                (BadJoin, ("join 0", "join 1", "join 3"))):
            for line in lines:
                self.refuse(kind, line)


class NoStore(unittest.TestCase):
    def test_all_but_book(self):
        desk = Desk()
        for line in ("come", "lend ann 7", "lend Ann 7", "lend ann x", "tell 1 2 7 5", "tell x 2 7 5", "back 1 7",
                     "cut 0 5", "cut x y", "join 0", "fall 5", "fall x", "pieces", "results", "left", "text", "judge",
                     "x", "", None):
            refused(self, NoLine, desk.say, line)

    def test_refused_books_make_none(self):
        desk = Desk()
        for kind, line in ((NoLine, "book"), (NoLine, "book 3 3 4 0"), (NoText, "book 3 3 x"),
                           (NoText, "book 3 3 4 0 01"), (BadWork, "book 3 3 4 5 4"), (BadWork, "book 0 3 4 5 4"),
                           (BadBound, "book 0 3 4 4 5")):
            refused(self, kind, desk.say, line)
            for asked in ("pieces", "text", "judge", "come", "fall 3"):
                refused(self, NoLine, desk.say, asked)
        self.assertEqual(desk.say(BOOK), "ok")
        self.assertEqual(known(desk), known(desk_at(0)))


if __name__ == "__main__":
    unittest.main()
