import re
import unittest

from lentwork.books import Book
from lentwork.errors import BadBound, BadWork, LentError, NoBook
from lentwork.houses import House, Store, come_up
from lentwork.judges import judged
from lentwork.lines import do_line
from lentwork.texts import head_text, read_text
from tests.support import BIG, PlainBook, all_works, done, in_short_time, next_deed, no_texts, refused, rows

HEAD = "work 0 12 20 30 span 3 every 3 least 4\n"
LENT = "lent 2 ann 0 0\n"
TOLD = "told 2 0 0 70 71\n"
RIGHT = HEAD + LENT + TOLD  # two lines: the next one is the third

NO_HEADS = (
    "\n", " \n", "x\n", "work\n", " " + HEAD, HEAD[:-1] + " \n", HEAD.replace(" span", "  span"), "\n" + HEAD, LENT,
    HEAD.replace("work", "Work"), HEAD.replace("work ", ""), HEAD.replace("span", "spans"), HEAD.replace("every", "x"),
    HEAD.replace("least", "most"), HEAD.replace("least 4", "least"), HEAD.replace("20 30", "20"),
    HEAD.replace("20 30", "20 30 40"), HEAD.replace("12", "012"), HEAD.replace("12", "+12"), HEAD.replace("12", "1.2"),
    HEAD.replace(" 0 ", " -0 "), HEAD.replace("span 3", "span 03"), HEAD.replace("span 3", "span x"),
    HEAD.replace("span 3", "span"), HEAD.replace("least 4", "least 4 4"), HEAD.replace("30", "1" + "0" * 18),
    HEAD.replace("span 3 every 3", "every 3 span 3"), "work 5 0 span 0 every 0 least x\n",
    "work 5 span 3 every 3 least 4\n",
)
BAD_WORKS = ("0 0", "5 4", "0 12 11 30", "20 30 0 12", "0 5 5 5", "-1 -2", "0 5 7 6", "0 9 0 9")
BAD_BOUNDS = (
    (0, 3, 4), (3, 0, 4), (3, 3, 0), (3, 3, 2), (-1, 3, 4), (3, -3, 4), (3, 3, -4), (3, 5, 4), (0, 0, 0), (1, 2, 1),
)
NO_FORMS = (
    "", " ", "x", "lent", "lent 2 bob 1", "lent 2 bob 1 1 1", "lent 2 bob 1 01", "lent 2 bob x 1", "lent x bob 1 1",
    "lent 2  1 1", "Lent 2 bob 1 1", "lend 2 bob 1 1", " lent 2 bob 1 1", "lent 2 bob 1 1 ", "lent 2  bob 1 1",
    "told 2 0", "told 2 0 2 x", "told 2 0 2 072", "told 2 0 2 -0", "told 2 x 2", "told x 0 2", "told 2 0 2 ", "told",
    "back 2", "back 2 0 0", "back 02 0", "back 2 +0", "cut 0", "cut 0 5 5", "cut 0 5.0", "cut", "join", "join 0 1",
    "join -", "join --1", "join 1-", "head", HEAD[:-1], "cut 0 " + "1" * 19,
)
NO_DEEDS = (
    "lent 2 Bob 1 1", "lent 2 abcdefghi 1 1", "lent 2 7 1 1", "lent 2 b_b 1 1", "lent 1 bob 1 1", "lent -2 bob 1 1",
    "lent 2 bob 0 1", "lent 2 bob 2 1", "lent 2 bob 1 0", "lent 2 bob 1 2", "lent 2 bob -1 1", "told 1 0 2 72",
    "told -2 0 2 72", "told 2 1 2 72", "told 2 -1 2 72", "told 2 0 3 72", "told 2 0 -1", "told 2 0 2 72 73 74 75",
    "told 2 0 1 72", "told 2 0 0 71 71 72", "back 1 0", "back 2 1", "back 2 -1", "cut 2 5", "cut -1 5", "cut 0 0",
    "cut 0 2", "cut 0 4", "cut 0 12", "cut 0 13", "cut 1 20", "cut 1 30", "join 0", "join 1", "join 2", "join -1",
)
NEXT = (
    "lent 2 bob 1 1", "lent 9 b 1 1", "told 2 0 2 72", "told 2 0 0 70 71 72 73 74", "told 2 0 2", "told 9 0 1 71",
    "told 2 0 0", "back 2 0", "back 99 0", "cut 0 5", "cut 0 11", "cut 1 21", "cut 1 29",
)
TORN = (" ", "x", "join 0", "cut 0 5", "told 2 0 2 7", "lent", "-", "work 0 1 span 1 every 1 least 1")

NUMBER = "(?:0|-?[1-9][0-9]{0,17})"
LINE = re.compile(f"lent {NUMBER} [!-~]+ {NUMBER} {NUMBER}|told {NUMBER} {NUMBER} {NUMBER}(?: {NUMBER})*"
                  f"|(?:back|cut) {NUMBER} {NUMBER}|join {NUMBER}")
HEADED = re.compile(f"work(?: {NUMBER} {NUMBER})* span {NUMBER} every {NUMBER} least {NUMBER}")


def plainly_judged(text):
    """The judgement, told by patterns and by reading one line more each time."""
    parts = text.split("\n")
    if len(parts) == 1 or not HEADED.fullmatch(parts[0]):
        return (0, "head")
    try:
        told = read_text(parts[0] + "\n")
    except (BadWork, BadBound) as refusal:
        return (0, "work" if isinstance(refusal, BadWork) else "bound")
    book = Book(*told[:4])
    for place in range(1, len(parts) - 1):
        if not LINE.fullmatch(parts[place]):
            return (place, "form")
        try:
            do_line(book, read_text(parts[0] + "\n" + parts[place] + "\n")[4][0])
        except LentError:
            return (place, "deed")
    return (len(parts) - 1, "torn") if parts[-1] else None


class Right(unittest.TestCase):
    def test_heads(self):
        for work in all_works(-2, 3):
            for bounds in ((1, 1, 1), (3, 2, 4), (BIG, 5, 10)):
                self.assertIsNone(judged(head_text(work, *bounds)))

    def test_lines(self):
        self.assertIsNone(judged(HEAD + LENT))
        self.assertIsNone(judged(RIGHT))
        for line in NEXT:
            self.assertIsNone(judged(RIGHT + line + "\n"), line)
        self.assertIsNone(judged(HEAD + "cut 0 5\njoin 0\ncut 0 3\ncut 0 1\njoin 4\n"))

    def test_a_telling_of_nothing_new(self):
        for line in ("told 2 0 2", "told 2 0 0 70 71", "told 2 0 1 71", "told 2 0 0", "told 3 0 2"):
            self.assertIsNone(judged(RIGHT + (line + "\n") * 3), line)

    def test_what_houses_write(self):
        for bounds, dice in rows(36):
            store, plain = Store(), PlainBook(*bounds)
            house = House(store, *bounds)
            for _ in range(60):
                deed = next_deed(dice, plain)
                plain.do(deed)
                done(house, deed)
            self.assertIsNone(judged(store.whole_text()))

    def test_each_beginning_of_what_a_house_writes(self):
        for bounds, dice in rows(6):
            store, plain = Store(), PlainBook(*bounds)
            house = House(store, *bounds)
            for _ in range(40):
                deed = next_deed(dice, plain)
                plain.do(deed)
                done(house, deed)
            text = store.whole_text()
            for signs in range(len(text) + 1):
                feeds = text[:signs].count("\n")
                right = (0, "head") if not feeds else None if text[signs - 1] == "\n" else (feeds, "torn")
                self.assertEqual(judged(text[:signs]), right)


class Amiss(unittest.TestCase):
    def test_what_is_no_text(self):
        for seat, thing in enumerate(no_texts() + [[HEAD], (HEAD,), HEAD.encode(), {HEAD: HEAD}]):
            with self.subTest(seat):
                self.assertEqual(judged(thing), (0, "head"))

    def test_no_line_feed(self):
        for text in ("", " ", "x", HEAD[:-1], "work 5 0 span 0 every 0 least 0", "join 0"):
            self.assertEqual(judged(text), (0, "head"))

    def test_heads(self):
        for head in NO_HEADS:
            for behind in ("", LENT, "x\n", "join 0\n", "torn"):
                self.assertEqual(judged(head + behind), (0, "head"), head)

    def test_works(self):
        for work in BAD_WORKS:
            for bounds in ((3, 3, 4), (0, 3, 4), (3, 3, 2)):
                for behind in ("", LENT, "x\n", "join 0\n", "torn"):
                    text = "work {} span {} every {} least {}\n{}".format(work, *bounds, behind)
                    self.assertEqual(judged(text), (0, "work"), text)

    def test_bounds(self):
        for bounds in BAD_BOUNDS:
            for work in ("", " 0 12", " 0 12 20 30"):
                for behind in ("", LENT, "x\n", "join 0\n", "torn"):
                    text = "work{} span {} every {} least {}\n{}".format(work, *bounds, behind)
                    self.assertEqual(judged(text), (0, "bound"), text)

    def test_forms(self):
        for line in NO_FORMS:
            for behind in ("", TOLD, "x\n", "join 0\n", "torn"):
                self.assertEqual(judged(HEAD + line + "\n" + behind), (1, "form"), line)
                self.assertEqual(judged(RIGHT + line + "\n" + behind), (3, "form"), line)

    def test_deeds(self):
        for line in NO_DEEDS:
            for behind in ("", TOLD, "x\n", "join 0\n", "torn"):
                self.assertEqual(judged(RIGHT + line + "\n" + behind), (3, "deed"), line)
        for line in NEXT:
            if not line.startswith("cut"):
                self.assertEqual(judged(HEAD + line + "\n"), (1, "deed"), line)

    def test_torn(self):
        for torn in TORN:
            self.assertEqual(judged(HEAD + torn), (1, "torn"))
            self.assertEqual(judged(RIGHT + torn), (3, "torn"))
            for line in NEXT:
                self.assertEqual(judged(RIGHT + line + "\n" + torn), (4, "torn"))

    def test_the_first_one_is_told(self):
        for line in NEXT:
            for kind, amiss in (("form", "cut 0 x"), ("deed", "join 7")):
                for behind in ("", "cut 0 x\n", "join 7\n", "\n", "torn"):
                    text = RIGHT + line + "\n" + amiss + "\n" + behind
                    self.assertEqual(judged(text), (4, kind), text)

    def test_what_a_line_tells_is_looked_at_behind_the_lines_ahead(self):
        self.assertEqual(judged(RIGHT + "back 2 0\nback 2 0\n"), (4, "deed"))
        self.assertEqual(judged(RIGHT + "back 2 0\ntold 2 0 2 72\n"), (4, "deed"))
        self.assertEqual(judged(RIGHT + "lent 9 bob 1 1\nlent 8 cy 2 0\n"), (4, "deed"))
        self.assertEqual(judged(RIGHT + "lent 9 bob 1 1\nlent 9 cy 2 0\ntold 9 0 2 72\n"), (5, "deed"))
        self.assertEqual(judged(RIGHT + "lent 2 bob 1 1\nlent 2 cy 2 2\ncut 0 9\n"), (5, "deed"))
        self.assertIsNone(judged(RIGHT + "lent 2 bob 1 1\nlent 2 cy 2 2\ncut 2 10\n"))
        self.assertEqual(judged(RIGHT + "lent 2 bob 1 1\nlent 2 cy 2 2\n" + "lent 2 dan 3 3\n" * 2), (6, "deed"))

    def test_the_same_answer_each_time(self):
        for text in (RIGHT, RIGHT + "x", RIGHT + "x\n", RIGHT + "join 0\n", ""):
            self.assertEqual(judged(text), judged(text))

    def test_kinds(self):
        for text in ("", "work 1 0 span 1 every 1 least 1\n", RIGHT + "x", RIGHT + "x\n", RIGHT + "join 0\n"):
            told = judged(text)
            self.assertEqual((type(told), type(told[0]), type(told[1])), (tuple, int, str))


class Beside(unittest.TestCase):
    TEXT = HEAD + LENT + TOLD + "lent 2 bob 1 1\ncut 1 24\nback 3 1\njoin 1\nlent 11 b 2 1\ntold 11 2 20 -5 6\n"

    def check(self, text):
        told = judged(text)
        self.assertEqual(told, plainly_judged(text), text)
        store = Store()
        store.write(text)
        # What is right, or torn alone, comes up; nothing else does.
        if told is None or told[1] == "torn":
            come_up(store)
        else:
            refused(self, NoBook, come_up, store)
        return told and told[1]

    def test_slips_of_one_sign(self):
        self.assertIsNone(judged(self.TEXT))
        met = {}
        for seat in range(len(self.TEXT) + 1):
            ahead, behind = self.TEXT[:seat], self.TEXT[seat:]
            for sign in (" ", "\n", "0", "1", "2", "9", "-", "a", "A", "~", "!", ""):
                for text in (ahead + sign + behind, ahead + sign + behind[1:]):
                    word = self.check(text)
                    met[word] = met.get(word, 0) + 1
        self.assertEqual(set(met), {None, "head", "work", "bound", "form", "deed", "torn"})
        self.assertTrue(min(met.values()) > 10, met)

    def test_lines_left_out_doubled_and_in_another_order(self):
        lines = self.TEXT.splitlines(keepends=True)
        for one in range(len(lines)):
            self.check("".join(lines[:one] + lines[one + 1:]))
            for other in range(len(lines)):
                self.check("".join(lines[:one] + [lines[other]] + lines[one:]))
                self.check("".join(lines[:one] + [lines[other]] + lines[one + 1:]))

    def test_sizes(self):
        text = "work 0 1600 span 3 every 1 least 1\n"
        text += "".join(f"cut {step} {8 * step + 8}\n" for step in range(199))
        text += "".join(f"lent 1 a {step} {step}\n" for step in range(200))
        text += "".join(f"told 1 {place // 8} {place} {-place}\n" for place in range(1600))
        self.assertIsNone(in_short_time(self, lambda: judged(text), 30))
        self.assertEqual(judged(text + "back 1 7\n"), (2000, "deed"))
        self.assertEqual(judged(text + "back 1 7"), (2000, "torn"))


if __name__ == "__main__":
    unittest.main()
