import unittest

from lentwork.runs import run
from tests.support import BIG, Asked, in_short_time


def ten(place):
    return 10 * place


class Examples(unittest.TestCase):
    def check(self, handed, plan, ticks, right, lines):
        """The results are told by the doing; lines are told with the places in the numbers' place."""
        work, span, every, least = handed
        ended, done, over, laid = right
        lines = [line[:4] + (tuple(map(ten, line[4])),) if line[0] == "told" else line for line in lines]
        results = [(low, tuple(map(ten, range(low, high)))) for low, high in laid]
        told = run(work, span, every, least, plan, ten, ticks)
        self.assertEqual(told, (ended, done, over, results, lines))
        self.assertEqual([type(part) for part in told[3:]], [list, list])
        self.assertIs(type(told), tuple)

    def test_alone(self):
        lines = [
            ("lent", 1, "ann", 0, 0), ("told", 1, 0, 0, (0, 1)), ("told", 2, 0, 2, (2, 3)), ("told", 3, 0, 4, (4,))]
        handed = (((0, 5),), 3, 2, 2)
        for pace in (2, 3, 1000):
            for ticks in (3, 4, 5000):
                self.check(handed, (("ann", pace, ()),), ticks, (3, 5, 0, ((0, 5),)), lines)
        self.check(handed, (("ann", 9, ()),), 2, (None, 4, 0, ((0, 4),)), lines[:3])
        self.check(handed, (("ann", 9, ()),), 1, (None, 2, 0, ((0, 2),)), lines[:2])
        self.check(handed, (("ann", 9, ()),), 0, (None, 0, 0, ()), [])

    def test_the_pace(self):
        lines = [("lent", 1, "a", 0, 0)] + [("told", tick, 0, tick - 4, (tick - 4,)) for tick in range(1, 6)]
        self.check((((-3, 2),), 1, 9, 9), (("a", 1, ()),), 99, (5, 5, 0, ((-3, 2),)), lines)

    def test_all_at_once(self):
        lines = [("lent", 1, "a", 0, 0), ("told", 1, 0, 0, tuple(range(1000)))]
        self.check((((0, 1000),), 1, 1000, 1000), (("a", 1000, ()),), 9, (1, 1000, 0, ((0, 1000),)), lines)

    def test_one_lending_a_turn(self):
        lines = [("lent", 1, "a", 0, 1), ("told", 1, 0, 5, (5, 6)), ("lent", 2, "a", 1, 0), ("told", 2, 1, 0, (0,))]
        self.check((((0, 1), (5, 7)), 3, 2, 2), (("a", 9, ()),), 9, (2, 3, 0, ((0, 1), (5, 7))), lines)

    def test_a_cut_and_its_end(self):
        """The worker whose piece is cut learns of its new end by its next telling."""
        lines = [
            ("lent", 1, "ann", 0, 0), ("told", 1, 0, 0, (0,)), ("lent", 1, "bob", 1, 1), ("told", 1, 1, 5, (5, 6)),
            ("told", 2, 0, 1, (1,)), ("told", 2, 1, 7, (7,)), ("told", 3, 0, 2, (2,)), ("told", 4, 0, 3, (3,)),
            ("told", 5, 0, 4, (4,))]
        self.check((((0, 8),), 3, 2, 2), (("ann", 1, ()), ("bob", 2, ())), 50, (5, 8, 0, ((0, 8),)), lines)

    def test_the_plans_order(self):
        lines = [
            ("lent", 1, "bob", 0, 0), ("told", 1, 0, 0, (0, 1)), ("lent", 1, "ann", 1, 1), ("told", 1, 1, 5, (5,)),
            ("told", 2, 0, 2, (2, 3)), ("told", 2, 1, 6, (6,)), ("told", 3, 0, 4, (4,)), ("told", 3, 1, 7, (7,))]
        self.check((((0, 8),), 3, 2, 2), (("bob", 2, ()), ("ann", 1, ())), 50, (3, 8, 0, ((0, 8),)), lines)

    def test_taken_over_and_lost(self):
        """The time of ann is out behind tick 3; what she tells at 6 is lost, and in no line."""
        lines = [
            ("lent", 1, "ann", 0, 0), ("told", 1, 0, 0, (0,)), ("lent", 4, "bob", 1, 0), ("told", 4, 1, 1, (1,)),
            ("told", 5, 1, 2, (2,)), ("told", 6, 1, 3, (3,))]
        plan = (("ann", 1, ((2, 6),)), ("bob", 1, ()))
        self.check((((0, 4),), 2, 1, 9), plan, 50, (6, 5, 1, ((0, 4),)), lines)
        self.check((((0, 4),), 2, 1, 9), plan, 4, (None, 3, 1, ((0, 2),)), lines[:4])
        self.check((((0, 4),), 2, 1, 9), plan, 3, (None, 2, 0, ((0, 1),)), lines[:2])

    def test_back_in_time(self):
        """What was kept is told, and the turn goes on."""
        lines = [
            ("lent", 1, "ann", 0, 0), ("told", 1, 0, 0, (0, 1)), ("told", 4, 0, 2, (2, 3)), ("told", 4, 0, 4, (4, 5)),
            ("told", 5, 0, 6, (6,))]
        for silences in (((2, 4),), ((2, 3), (3, 4)), ((-9, 1), (2, 4)), ((2, 4), (50, 60))):
            for span in (2, 3, 9):
                self.check((((0, 7),), span, 2, 2), (("ann", 2, silences),), 50, (5, 7, 0, ((0, 7),)), lines)

    def test_late_but_not_taken_over(self):
        lines = [("lent", 1, "ann", 0, 0), ("told", 1, 0, 0, (0,)), ("told", 40, 0, 1, (1,)), ("told", 40, 0, 2, (2,))]
        self.check((((0, 3),), 2, 1, 1), (("ann", 7, ((2, 40),)),), 50, (40, 3, 0, ((0, 3),)), lines)
        self.check((((0, 3),), 2, 1, 1), (("ann", 7, ((2, 40),)),), 39, (None, 2, 0, ((0, 1),)), lines[:2])

    def test_a_piece_that_is_done_by_what_was_kept(self):
        lines = [
            ("lent", 1, "ann", 0, 0), ("told", 1, 0, 0, (0,)), ("told", 3, 0, 1, (1,)), ("lent", 3, "ann", 1, 1),
            ("told", 3, 1, 5, (5,))]
        self.check((((0, 2), (5, 6)), 9, 1, 1), (("ann", 1, ((2, 3),)),), 50, (3, 3, 0, ((0, 2), (5, 6))), lines)

    def test_lost_and_lent_anew_at_once(self):
        """At 4 ann finds her lending lost, and gets what is cut off from the piece that was hers."""
        lines = [
            ("lent", 1, "ann", 0, 0), ("told", 1, 0, 0, (0,)), ("lent", 1, "bob", 1, 1), ("told", 1, 1, 11, (11,)),
            ("told", 2, 1, 12, (12,)), ("told", 3, 1, 13, (13,)), ("lent", 3, "cy", 2, 0), ("told", 3, 2, 1, (1,)),
            ("lent", 4, "ann", 3, 2), ("told", 4, 3, 7, (7,)), ("told", 4, 1, 14, (14,)), ("told", 4, 2, 2, (2,))]
        plan = (("ann", 1, ((2, 4),)), ("bob", 1, ()), ("cy", 1, ((-5, 3),)))
        self.check((((0, 20),), 1, 1, 3), plan, 4, (None, 9, 1, ((0, 3), (7, 8), (11, 15))), lines)

    def test_silent_without_a_lending(self):
        lines = [("lent", 4, "ann", 0, 0), ("told", 4, 0, 0, (0, 1))]
        for silences in (((1, 4),), ((-BIG, 4),), ((0, 1), (1, 2), (2, 4)), ((1, 4), (5, 6))):
            self.check((((0, 2),), 3, 2, 2), (("ann", 5, silences),), 50, (4, 2, 0, ((0, 2),)), lines)
        self.check((((0, 2),), 3, 2, 2), (("ann", 5, ((1, BIG),)),), 5000, (None, 0, 0, ()), [])

    def test_silent_twice(self):
        """Each silence does as many places as a turn, and keeps them."""
        lines = [
            ("lent", 1, "ann", 0, 0), ("told", 1, 0, 0, (0,)), ("told", 3, 0, 1, (1,)), ("told", 3, 0, 2, (2,)),
            ("told", 5, 0, 3, (3,)), ("told", 5, 0, 4, (4,)), ("told", 6, 0, 5, (5,))]
        self.check((((0, 6),), 3, 2, 2), (("ann", 1, ((2, 3), (4, 5))),), 50, (6, 6, 0, ((0, 6),)), lines)

    def test_silent_for_good(self):
        self.check((((0, 6),), 3, 2, 2), (("ann", 2, ((2, BIG),)),), 5000, (None, 4, 0, ((0, 2),)),
                   [("lent", 1, "ann", 0, 0), ("told", 1, 0, 0, (0, 1))])

    def test_no_place(self):
        for plan in ((), (("ann", 1, ()),), (("ann", 1, ((1, 9),)), ("bob", 1, ()))):
            for ticks in (0, 1, 5000):
                self.check(((), 3, 2, 2), plan, ticks, (0, 0, 0, ()), [])

    def test_no_worker(self):
        for ticks in (0, 1, 5000):
            self.check((((0, 3),), 3, 2, 2), (), ticks, (None, 0, 0, ()), [])


class Doing(unittest.TestCase):
    def test_what_was_kept_is_not_done_anew(self):
        asked = Asked()
        told = run(((0, 6),), 3, 2, 2, (("ann", 2, ((2, 4),)),), asked, 9)
        self.assertEqual(asked.places, [0, 1, 2, 3, 4, 5])
        self.assertEqual(told[3], [(0, (1, 1002, 2003, 3004, 4005, 5006))])
        self.assertEqual(told[4][2:], [("told", 4, 0, 2, (2003, 3004)), ("told", 4, 0, 4, (4005, 5006))])

    def test_what_was_lost_is_done_again(self):
        asked = Asked()
        told = run(((0, 4),), 2, 1, 9, (("ann", 1, ((2, 6),)), ("bob", 1, ())), asked, 9)
        self.assertEqual(asked.places, [0, 1, 1, 2, 3])
        self.assertEqual((told[1], told[3]), (5, [(0, (1, 1003, 2004, 3005))]))

    def test_any_whole_numbers(self):
        told = run(((0, 3),), 2, 2, 2, (("ann", 2, ()),), lambda place: (-BIG, 0, BIG)[place], 9)
        self.assertEqual(told[3], [(0, (-BIG, 0, BIG))])


class Sizes(unittest.TestCase):
    def test_five_thousand_ticks(self):
        names = [first + second for first in "abcde" for second in "abcdefghij"]
        plan = tuple((name, 1, ((3, BIG),)) for name in names)
        told = in_short_time(self, lambda: run(((0, 2000),), BIG, 1, 1, plan, ten, 5000), 30)
        self.assertEqual((told[0], told[1]), (None, 150))

    def test_very_many_silences(self):
        plan = tuple((name, 1, tuple((step, step + 1) for step in range(shift, 5000, 2)))
                     for shift, name in enumerate("abcd"))
        told = in_short_time(self, lambda: run(((0, 2000),), 1, 1, 1, plan, ten, 5000), 30)
        self.assertEqual(told[3], [(0, tuple(map(ten, range(2000))))])

    def test_two_thousand_places(self):
        told = in_short_time(self, lambda: run(((0, 2000),), 3, 1, 1, (("a", 1, ()),), ten, 5000), 30)
        self.assertEqual((told[0], told[1], len(told[4])), (2000, 2000, 2001))

    def test_two_hundred_pieces(self):
        work = tuple((20 * step, 20 * step + 10) for step in range(200))
        plan = tuple((first + second, 1, ()) for first in "abcde" for second in "abcdefghij")
        told = in_short_time(self, lambda: run(work, 3, 2, 6, plan, ten, 5000), 30)
        self.assertEqual((told[0], told[1], told[2]), (40, 2000, 0))


if __name__ == "__main__":
    unittest.main()
