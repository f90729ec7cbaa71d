import re
import unittest

from lentwork.errors import BadBound, BadWork, NoText
from lentwork.texts import head_text, line_text, read_text
from tests.support import BIG, Thorny, all_works, in_short_time, no_texts, refused

HEAD = "work 0 5 span 3 every 2 least 4\n"
READ = (((0, 5),), 3, 2, 4)
MOST = 10 ** 18 - 1  # the greatest number of eighteen figures

LINES = (
    (("lent", 3, "ann", 0, 1), "lent 3 ann 0 1\n"),
    (("lent", 0, "a", 12, 0), "lent 0 a 12 0\n"),
    (("told", 4, 0, 5, (7, 8, 9)), "told 4 0 5 7 8 9\n"),
    (("told", 4, 0, -5, (-7,)), "told 4 0 -5 -7\n"),
    (("told", 4, 0, 5, ()), "told 4 0 5\n"),
    (("back", 4, 0), "back 4 0\n"),
    (("cut", 10, -3), "cut 10 -3\n"),
    (("join", 7), "join 7\n"),
    (("told", MOST, MOST, -MOST, (MOST, -MOST, 0)), f"told {MOST} {MOST} -{MOST} {MOST} -{MOST} 0\n"),
)

# The same form, told by one pattern.
NUMBER = "(?:0|-?[1-9][0-9]{0,17})"
LINE = re.compile(
    f"(lent) ({NUMBER}) ([!-~]+) ({NUMBER}) ({NUMBER})|(told) ({NUMBER}) ({NUMBER}) ({NUMBER})((?: {NUMBER})*)"
    f"|(back) ({NUMBER}) ({NUMBER})|(cut) ({NUMBER}) ({NUMBER})|(join) ({NUMBER})")
HEADED = re.compile(f"work((?: {NUMBER} {NUMBER})*) span ({NUMBER}) every ({NUMBER}) least ({NUMBER})")


def is_written_right(text):
    rows = text[:text.rfind("\n") + 1].split("\n")[:-1]
    return bool(rows) and bool(HEADED.fullmatch(rows[0])) and all(LINE.fullmatch(row) for row in rows[1:])


def written(told):
    return head_text(*told[:4]) + "".join(line_text(line) for line in told[4])


class Heads(unittest.TestCase):
    def test_heads(self):
        self.assertEqual(head_text(((0, 5),), 3, 2, 4), "work 0 5 span 3 every 2 least 4\n")
        self.assertEqual(head_text((), 1, 1, 1), "work span 1 every 1 least 1\n")
        self.assertEqual(
            head_text(((-7, -2), (-2, 0), (3, 10)), 12, 5, 60), "work -7 -2 -2 0 3 10 span 12 every 5 least 60\n")
        self.assertEqual(
            head_text(((-MOST, MOST),), MOST, MOST, MOST),
            f"work -{MOST} {MOST} span {MOST} every {MOST} least {MOST}\n")

    def test_heads_are_read_as_they_were(self):
        for work in all_works(-2, 3):
            for bounds in ((1, 1, 1), (3, 2, 4), (BIG, 5, 10)):
                self.assertEqual(read_text(head_text(work, *bounds)), (work, *bounds, ()))

    def test_stretches_that_touch_stay_two(self):
        self.assertEqual(read_text("work 0 2 2 5 span 1 every 1 least 1\n"), (((0, 2), (2, 5)), 1, 1, 1, ()))


class Lines(unittest.TestCase):
    def test_written(self):
        for line, text in LINES:
            self.assertEqual(line_text(line), text)

    def test_read(self):
        for line, text in LINES:
            self.assertEqual(read_text(HEAD + text), READ + ((line,),))

    def test_read_together(self):
        text = HEAD + "".join(text for line, text in LINES)
        told = read_text(text)
        self.assertEqual(told, READ + (tuple(line for line, text in LINES),))
        self.assertEqual(written(told), text)
        self.assertEqual(read_text(text), told)

    def test_tuples_through_and_through(self):
        told = read_text(HEAD + "".join(text for line, text in LINES))
        self.assertEqual([type(part) for part in told], [tuple, int, int, int, tuple])
        self.assertEqual([type(stretch) for stretch in told[0]], [tuple])
        for line in told[4]:
            self.assertIs(type(line), tuple)
            for part in line:
                self.assertIn(type(part), (int, str, tuple))
        self.assertEqual({type(number) for line in told[4][2:4] for number in line[4]}, {int})

    def test_a_worker_may_be_any_word(self):
        for worker in ("ann", "A", "9", "0", "-1", "abcdefghijkl", "!", "~", "a-b", "lent", "told", "work", "%d", "\\n",
                       "'", '"', "{}", "00", "a" * 500, "!~" * 9):
            text = HEAD + f"lent 3 {worker} 0 1\n"
            with self.subTest(worker):
                self.assertEqual(read_text(text), READ + ((("lent", 3, worker, 0, 1),),))
                self.assertEqual(written(read_text(text)), text)

    def test_what_lines_tell_is_not_looked_at(self):
        rows = (
            "told -4 -1 99 5\n", "back -3 -1\n", "cut -1 500\n", "join -9\n", "lent -1 Ann -5 -7\n", "join 3\n",
            "join 3\n")
        told = read_text(HEAD + "".join(rows))
        self.assertEqual(told[4], (
            ("told", -4, -1, 99, (5,)), ("back", -3, -1), ("cut", -1, 500), ("join", -9), ("lent", -1, "Ann", -5, -7),
            ("join", 3), ("join", 3)))
        self.assertEqual(written(told), HEAD + "".join(rows))


class Ends(unittest.TestCase):
    def test_what_stands_behind_the_last_line_feed_is_left_out(self):
        for text in (HEAD, HEAD + "join 3\n", HEAD + "told 1 2 3\njoin 0\n"):
            right = read_text(text)
            self.assertEqual(written(right), text)
            for tail in ("j", "join", "join 3", "join 3 ", "joi  n", " ", "  ", "lent", "0", "work 5 0", "~", "told 1"):
                self.assertEqual(read_text(text + tail), right)

    def test_each_beginning_of_a_text(self):
        text = HEAD + "lent 0 ann 0 0\ntold 1 0 0 5 6\nback 2 0\n"
        for count in range(len(text) + 1):
            rows = text[:count].count("\n")
            if rows:
                self.assertEqual(read_text(text[:count])[4], read_text(text)[4][:rows - 1])
                self.assertEqual(read_text(text[:count])[:4], READ)
            else:
                refused(self, NoText, read_text, text[:count])

    def test_without_a_line_feed_there_is_no_head(self):
        for text in ("", " ", "work", HEAD[:-1], "work span 1 every 1 least 1", "join 3"):
            refused(self, NoText, read_text, text)

    def test_rows_without_words(self):
        for text in ("\n", "\n\n", "\n" + HEAD, HEAD + "\n", HEAD + "\njoin 3\n", HEAD + "join 3\n\n", HEAD + " \n"):
            refused(self, NoText, read_text, text)


class NoTexts(unittest.TestCase):
    def test_what_is_no_text(self):
        for seat, thing in enumerate(no_texts() + [Thorny(), HEAD.encode(), [HEAD], (HEAD,), READ, READ + ((),)]):
            with self.subTest(seat):
                refused(self, NoText, read_text, thing)

    def test_heads(self):
        for head in (
                "work 0 5 span 3 every 2 least", "work 0 5 span 3 every 2", "work 0 5", "span 3 every 2 least 4",
                "work 0 5 span 3 least 4 every 2", "work 0 5 every 2 span 3 least 4",
                "work 0 5 span 3 every 2 least 4 4",
                "work 0 5 span 3 every 2 least 4 least 4", "work 0 5 work span 3 every 2 least 4",
                "work 0 span 3 every 2 least 4", "work 0 5 6 span 3 every 2 least 4",
                "work 0 5 span span 3 every 2 least 4",
                "Work 0 5 span 3 every 2 least 4", "work 0 5 Span 3 every 2 least 4", "work 0 5 spam 3 every 2 least 4",
                "work 0 5 span 3 every 2 leas 4", "work 0 5 span 3 ever 2 least 4", "0 5 span 3 every 2 least 4",
                "work a 5 span 3 every 2 least 4", "work 0 b span 3 every 2 least 4", "work 0 5 span x every 2 least 4",
                "work 0 5 span 3 every x least 4", "work 0 5 span 3 every 2 least x", "work 0 5 span every 2 least 4",
                "work (0 5) span 3 every 2 least 4", "work 0,5 span 3 every 2 least 4", "join 3", "book 3 2 4 0 5",
                "work 0 5 1 span 3 every 2 least 4 0", "work span 3 every 2 least 4 0 5", "work", "span", "least 4"):
            with self.subTest(head):
                refused(self, NoText, read_text, head + "\n")
                refused(self, NoText, read_text, head + "\njoin 3\n")

    def test_lines(self):
        for line in (
                "lent", "lent 3", "lent 3 ann", "lent 3 ann 0", "lent 3 ann 0 1 2", "lent ann 3 0 1", "lent 3 0 1",
                "told", "told 4", "told 4 0", "told 4 0 x", "told 4 0 5 x", "told 4 0 5 7 x 8", "told 4 0 5 (7)",
                "told 4 0 5 ()", "told 4 0 5 7,8", "told x 0 5 7", "told 4 x 5 7", "back", "back 4", "back 4 0 1",
                "back x 0", "back 4 x", "cut", "cut 1", "cut 1 2 3", "cut x 2", "cut 1 x", "join", "join 1 2", "join x",
                "Join 3", "JOIN 3", "joins 3", "joi 3", "lend 3 ann 0 1", "tell 4 0 5 7", "give 4 0", "3 join", "3",
                "x", "choice 3", "fall 3", HEAD[:-1], "join None", "join True", "lent 3 a b 0 1", "lent x ann 0 1",
                "lent 3 ann x 1", "lent 3 ann 0 x", "lent 3  0 1", "lent  ann 0 1", "lent 3 ann  1", "told 4  5",
                "join ", "cut  3", "cut 3 ", "back 4 ", " 3"):
            with self.subTest(line):
                refused(self, NoText, read_text, HEAD + line + "\n")
                refused(self, NoText, read_text, HEAD + "join 3\n" + line + "\njoin 3\n")

    def test_blanks(self):
        for line in ("", "lent 3 ann 0 1\n", "told 4 0 5 7 8\n", "back 4 0\n", "join 3\n"):
            text = HEAD + line
            for at in range(len(text)):
                if text[at] == " ":
                    refused(self, NoText, read_text, text[:at] + "  " + text[at + 1:])
                if text[at] == "\n":
                    refused(self, NoText, read_text, text[:at] + " \n" + text[at + 1:])
                if at == 0 or text[at - 1] == "\n":
                    refused(self, NoText, read_text, text[:at] + " " + text[at:])

    def test_numbers(self):
        seats = (
            "work {} 5 span 3 every 2 least 4\n", "work 0 {} span 3 every 2 least 4\n",
            "work 0 5 span {} every 2 least 4\n", "work 0 5 span 3 every {} least 4\n",
            "work 0 5 span 3 every 2 least {}\n", HEAD + "lent {} ann 0 1\n", HEAD + "lent 3 ann {} 1\n",
            HEAD + "lent 3 ann 0 {}\n", HEAD + "told {} 0 5 7\n", HEAD + "told 4 {} 5 7\n", HEAD + "told 4 0 {} 7\n",
            HEAD + "told 4 0 5 {}\n", HEAD + "told 4 0 5 7 {}\n", HEAD + "told 4 0 5 {} 7\n", HEAD + "back {} 0\n",
            HEAD + "back 4 {}\n", HEAD + "cut {} 3\n", HEAD + "cut 3 {}\n", HEAD + "join {}\n",
        )
        bad = (
            "00", "01", "007", "-0", "-00", "-01", "-", "--1", "-1-", "+1", "+0", "1.0", "1e3", "1_000", "0x1", "a",
            "1a", "a1", "1,", ",", "'1'", "1-", "1000000000000000000", "-1000000000000000000", "9" * 19, "9" * 30,
            "0" * 18, "-0" + "9" * 17, "9" * 5000, "None", "True", "(1)", "!", "~", "/", ":", "1/", "1:", ".5",
        )
        for seat in seats:
            for number in bad:
                refused(self, NoText, read_text, seat.format(number))

    def test_numbers_of_up_to_eighteen_figures(self):
        for number in (0, 1, -1, 9, 10, -10, 90, 100, 10 ** 17, -10 ** 17, MOST, -MOST, 10 ** 16, 123456789012345678):
            self.assertEqual(read_text(HEAD + f"told {number} {number} {number} {number} 0 {number}\n")[4], (
                ("told", number, number, number, (number, 0, number)),))
            self.assertEqual(read_text(HEAD + f"join {number}\n")[4], (("join", number),))


    def test_signs_that_no_word_has(self):
        for sign in ("\t", "\r", "\x00", "\x1f", "\x7f", "\xa0", "\u00e9", "\u0663", "\u00b2", "\u2028"):
            for line in (f"lent 3 {sign} 0 1", f"lent 3 a{sign}b 0 1", f"join {sign}", f"join 3{sign}", f"join{sign}3"):
                refused(self, NoText, read_text, HEAD + line + "\n")


class RefusedHeads(unittest.TestCase):
    def test_works(self):
        for work in ("5 5", "5 0", "0 5 4 9", "0 5 0 5", "5 6 0 1", "0 -1", "-1 -2", "0 1 2 2", f"{MOST} -{MOST}"):
            for bounds in ("span 3 every 2 least 4", "span 0 every 2 least 1"):
                with self.subTest((work, bounds)):
                    refused(self, BadWork, read_text, f"work {work} {bounds}\n")
                    refused(self, BadWork, read_text, f"work {work} {bounds}\njoin 3\nlent 1 A 2 3\n")
                    refused(self, BadWork, read_text, f"work {work} {bounds}\njoin 3\nlent 1 A 2 ")

    def test_bounds(self):
        for span, every, least in (
                (0, 1, 1), (1, 0, 1), (1, 1, 0), (0, 0, 0), (-1, 1, 1), (1, -1, 1), (1, 1, -1), (1, 2, 1), (9, 5, 4),
                (-MOST, 1, 1), (1, MOST, MOST - 1)):
            for work in ("", " 0 5", " 0 5 5 6"):
                text = f"work{work} span {span} every {every} least {least}\n"
                with self.subTest(text):
                    refused(self, BadBound, read_text, text)
                    refused(self, BadBound, read_text, text + "join 3\njoi")

    def test_how_lines_are_written_is_told_ahead_of_both(self):
        for head in ("work 5 0 span 3 every 2 least 4\n", "work 0 5 span 0 every 2 least 4\n",
                     "work 5 0 span 3 every 2 least 1\n"):
            for lines in ("\n", "joi 3\n", "join 3\njoin 03\n", "lent 3 ann 0\n", "join 3\n\n"):
                refused(self, NoText, read_text, head + lines)

    def test_bounds_that_are_right(self):
        for bounds in ((1, 1, 1), (1, 2, 2), (1, 2, 3), (MOST, MOST, MOST)):
            self.assertEqual(read_text("work span {} every {} least {}\n".format(*bounds)), ((), *bounds, ()))


class EverySmallSlip(unittest.TestCase):
    """Each sign of a text taken away, or another one put in its place or ahead of it."""

    TEXT = "work -3 0 10 25 span 3 every 2 least 40\nlent 30 an 10 2\ntold 4 1 -15 7 80\nback 4 10\ncut 2 9\njoin 30\n"

    def slips(self):
        for at in range(len(self.TEXT) + 1):
            ahead, behind = self.TEXT[:at], self.TEXT[at:]
            yield ahead + behind[1:]
            for sign in " \n-019lt!~+":
                yield ahead + sign + behind
                yield ahead + sign + behind[1:]

    def test_each_slip(self):
        right = wrong = 0
        for text in self.slips():
            if not is_written_right(text):
                refused(self, NoText, read_text, text)
                wrong += 1
                continue
            try:
                told = read_text(text)
            except (BadWork, BadBound):
                continue
            self.assertEqual(written(told), text[:text.rfind("\n") + 1])
            right += 1
        self.assertTrue(right > 200 and wrong > 1000)

    def test_rows_in_another_order(self):
        rows = self.TEXT.splitlines(keepends=True)
        for seat, row in enumerate(rows[1:], start=1):
            refused(self, NoText, read_text, row + self.TEXT)
            refused(self, NoText, read_text, "".join(rows[1:]))
            refused(self, NoText, read_text, self.TEXT + rows[0])
            self.assertEqual(written(read_text(self.TEXT + row)), self.TEXT + row)


class Sizes(unittest.TestCase):
    def test_three_thousand_lines(self):
        lines = tuple(("told", step, step, -step, tuple(range(step, step + 20))) for step in range(3000))
        text = head_text(((0, 5),), 3, 2, 4) + "".join(line_text(line) for line in lines)
        self.assertEqual(in_short_time(self, lambda: read_text(text)), READ + (lines,))

    def test_two_thousand_stretches(self):
        work = tuple((BIG + 2 * step, BIG + 2 * step + 1) for step in range(2000))
        text = in_short_time(self, lambda: head_text(work, 1, 1, 1))
        self.assertEqual(in_short_time(self, lambda: read_text(text)), (work, 1, 1, 1, ()))

    def test_two_thousand_numbers_in_one_line(self):
        line = ("told", 1, 2, 3, tuple(MOST - step for step in range(2000)))
        text = HEAD + in_short_time(self, lambda: line_text(line))
        self.assertEqual(in_short_time(self, lambda: read_text(text)), READ + ((line,),))


if __name__ == "__main__":
    unittest.main()
