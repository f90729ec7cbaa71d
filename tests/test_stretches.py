import unittest

from lentwork.errors import BadWork
from lentwork.stretches import both, check_work, either, has_place, is_whole, short_form, size_of, without
from tests.support import (
    BIG, Seeming, Thorny, all_works, assert_tuples_of_wholes, in_short_time, no_wholes, no_works, places_of, refused,
    short_of,
)

RIGHT_WORKS = (
    (), ((0, 1),), ((0, 2000),), ((-1, 0),), ((-5, 5),), ((-7, -3),), ((0, 1), (1, 2)), ((0, 3), (3, 4), (4, 9)),
    ((0, 1), (2, 3)), ((-4, -2), (-2, 0), (0, 1), (5, 6)), ((BIG, BIG + 1),), ((-BIG - 3, -BIG), (BIG, BIG + 3)),
    ((-BIG * 10 + 1, -BIG * 10 + 2), (BIG * 10 - 2, BIG * 10 - 1)),
)


class WholeNumbers(unittest.TestCase):
    def test_ints_are_whole_numbers(self):
        for number in (0, 1, -1, 2, -2, 10, 255, 256, 257, -300, BIG, -BIG, BIG * 10 - 1, -BIG * 10 + 1):
            with self.subTest(number):
                self.assertIs(is_whole(number), True)

    def test_nothing_else_is_one(self):
        for seat, thing in enumerate(no_wholes()):
            with self.subTest(seat):
                self.assertIs(is_whole(thing), False)


class CheckedWork(unittest.TestCase):
    def test_right_work_is_let_through(self):
        for work in RIGHT_WORKS + tuple(all_works(-2, 3)):
            with self.subTest(work):
                self.assertIsNone(check_work(work))

    def test_anything_else_is_refused(self):
        for seat, thing in enumerate(no_works()):
            with self.subTest(seat):
                refused(self, BadWork, check_work, thing)

    def test_every_pair_of_numbers_is_a_stretch_where_it_rises(self):
        for low in range(-3, 4):
            for high in range(-3, 4):
                with self.subTest((low, high)):
                    if low < high:
                        self.assertIsNone(check_work(((low, high),)))
                    else:
                        refused(self, BadWork, check_work, ((low, high),))

    def test_every_low_stands_from_the_high_ahead_on(self):
        stretches = [(low, high) for low in range(4) for high in range(low + 1, 5)]
        for first in stretches:
            for second in stretches:
                with self.subTest((first, second)):
                    if second[0] >= first[1]:
                        self.assertIsNone(check_work((first, second)))
                    else:
                        refused(self, BadWork, check_work, (first, second))

    def test_a_refused_thing_is_not_changed(self):
        for deed in (check_work, short_form, size_of):
            stretches = [(5, 6), [0, 1], (0, 1)]
            refused(self, BadWork, deed, stretches)
            self.assertEqual(stretches, [(5, 6), [0, 1], (0, 1)])
            inner = [3, 1]
            refused(self, BadWork, deed, ((0, 1), inner))
            self.assertEqual(inner, [3, 1])

    def test_every_question_refuses_what_is_no_work(self):
        good = ((0, 4),)
        for seat, thing in enumerate(no_works()):
            with self.subTest(seat):
                refused(self, BadWork, short_form, thing)
                refused(self, BadWork, size_of, thing)
        for seat, thing in enumerate(no_works()):
            with self.subTest(seat):
                for place in (0, 100, "no place", None, True, Thorny()):
                    refused(self, BadWork, has_place, thing, place)
        for deed in (either, both, without):
            for seat, thing in enumerate(no_works()):
                with self.subTest(deed=deed.__name__, seat=seat):
                    refused(self, BadWork, deed, thing, good)
                    refused(self, BadWork, deed, good, thing)
                    refused(self, BadWork, deed, thing, ())
                    refused(self, BadWork, deed, (), thing)
                    refused(self, BadWork, deed, thing, thing)


class ShortForm(unittest.TestCase):
    def test_stretches_that_touch_are_one(self):
        self.assertEqual(short_form(((0, 1), (1, 2))), ((0, 2),))
        self.assertEqual(short_form(((0, 1), (1, 2), (2, 5))), ((0, 5),))
        self.assertEqual(short_form(((-3, -1), (-1, 0), (0, 4), (6, 7), (7, 9))), ((-3, 4), (6, 9)))

    def test_stretches_with_gaps_stay_apart(self):
        for work in (((0, 1), (2, 3)), ((-5, -1), (0, 1)), ((0, 10), (11, 12), (20, 30))):
            with self.subTest(work):
                self.assertEqual(short_form(work), work)

    def test_no_stretch_stays_none(self):
        self.assertEqual(short_form(()), ())

    def test_numbers_of_eighteen_figures(self):
        low = -BIG * 10 + 1
        high = BIG * 10 - 1
        work = ((low, low + 1), (low + 1, low + 3), (high - 4, high - 2), (high - 2, high))
        self.assertEqual(short_form(work), ((low, low + 3), (high - 4, high)))

    def test_every_small_work(self):
        for work in all_works(-3, 3):
            with self.subTest(work):
                told = short_form(work)
                self.assertEqual(told, short_of(places_of(work)))
                assert_tuples_of_wholes(self, told)
                self.assertEqual(short_form(told), told)


class TwoWorks(unittest.TestCase):
    def test_either(self):
        self.assertEqual(either((), ()), ())
        self.assertEqual(either(((0, 2),), ()), ((0, 2),))
        self.assertEqual(either((), ((0, 2),)), ((0, 2),))
        self.assertEqual(either(((0, 2),), ((2, 4),)), ((0, 4),))
        self.assertEqual(either(((2, 4),), ((0, 2),)), ((0, 4),))
        self.assertEqual(either(((0, 10),), ((2, 3),)), ((0, 10),))
        self.assertEqual(either(((2, 3),), ((0, 10),)), ((0, 10),))
        self.assertEqual(either(((0, 5),), ((3, 8),)), ((0, 8),))
        self.assertEqual(either(((0, 1), (4, 5)), ((2, 3), (7, 8))), ((0, 1), (2, 3), (4, 5), (7, 8)))
        self.assertEqual(either(((0, 1), (4, 5)), ((1, 4),)), ((0, 5),))

    def test_both(self):
        self.assertEqual(both((), ()), ())
        self.assertEqual(both(((0, 2),), ()), ())
        self.assertEqual(both((), ((0, 2),)), ())
        self.assertEqual(both(((0, 2),), ((2, 4),)), ())
        self.assertEqual(both(((0, 5),), ((3, 8),)), ((3, 5),))
        self.assertEqual(both(((3, 8),), ((0, 5),)), ((3, 5),))
        self.assertEqual(both(((0, 10),), ((2, 3), (5, 7))), ((2, 3), (5, 7)))
        self.assertEqual(both(((0, 2), (2, 4)), ((1, 3),)), ((1, 3),))
        self.assertEqual(both(((1, 2), (2, 3)), ((0, 2), (2, 4))), ((1, 3),))

    def test_without(self):
        self.assertEqual(without((), ()), ())
        self.assertEqual(without((), ((0, 2),)), ())
        self.assertEqual(without(((0, 2), (2, 4)), ()), ((0, 4),))
        self.assertEqual(without(((0, 10),), ((3, 5),)), ((0, 3), (5, 10)))
        self.assertEqual(without(((0, 10),), ((0, 5),)), ((5, 10),))
        self.assertEqual(without(((0, 10),), ((5, 10),)), ((0, 5),))
        self.assertEqual(without(((0, 10),), ((-5, 20),)), ())
        self.assertEqual(without(((0, 2), (4, 6), (8, 10)), ((1, 9),)), ((0, 1), (9, 10)))
        self.assertEqual(without(((0, 10),), ((1, 2), (2, 3), (5, 6))), ((0, 1), (3, 5), (6, 10)))
        self.assertEqual(without(((3, 5),), ((0, 10),)), ())

    def test_below_zero_and_of_eighteen_figures(self):
        one = ((-BIG - 10, -BIG), (BIG, BIG + 10))
        other = ((-BIG - 5, -BIG + 5), (BIG + 3, BIG + 4))
        self.assertEqual(either(one, other), ((-BIG - 10, -BIG + 5), (BIG, BIG + 10)))
        self.assertEqual(both(one, other), ((-BIG - 5, -BIG), (BIG + 3, BIG + 4)))
        self.assertEqual(without(one, other), ((-BIG - 10, -BIG - 5), (BIG, BIG + 3), (BIG + 4, BIG + 10)))

    def test_every_pair_of_small_works(self):
        works = [(work, places_of(work)) for work in all_works(-2, 3)]
        for one, first in works:
            for other, second in works:
                self.assertEqual(either(one, other), short_of(first | second), (one, other))
                self.assertEqual(both(one, other), short_of(first & second), (one, other))
                self.assertEqual(without(one, other), short_of(first - second), (one, other))

    def test_tuples_through_and_through(self):
        one = ((0, 2), (2, 4), (6, 9))
        other = ((1, 3), (3, 7))
        for told in (either(one, other), both(one, other), without(one, other), either(one, ()), without(one, ())):
            assert_tuples_of_wholes(self, told)


class CountsAndPlaces(unittest.TestCase):
    def test_how_many_places(self):
        self.assertEqual(size_of(()), 0)
        self.assertEqual(size_of(((0, 1),)), 1)
        self.assertEqual(size_of(((-3, 4),)), 7)
        self.assertEqual(size_of(((-3, -1), (-1, 0), (5, 9))), 7)
        self.assertEqual(size_of(((-BIG - 4, -BIG), (BIG, BIG + 3))), 7)
        for work in all_works(-3, 3):
            self.assertEqual(size_of(work), len(places_of(work)), work)

    def test_the_count_is_a_whole_number(self):
        for work in RIGHT_WORKS:
            self.assertIs(type(size_of(work)), int)

    def test_places_at_the_ends_and_beside_them(self):
        for base in (0, 1, -1, -4, 5, BIG, -BIG):
            work = ((base, base + 3), (base + 3, base + 5), (base + 7, base + 8))
            told = [has_place(work, base + step) for step in range(-1, 10)]
            self.assertEqual(told, [False] + [True] * 5 + [False] * 2 + [True] + [False] * 2)

    def test_every_place_of_every_small_work(self):
        for work in all_works(-2, 3):
            for place in range(-4, 6):
                self.assertIs(has_place(work, place), place in places_of(work), (work, place))

    def test_the_work_of_no_stretch_has_no_place(self):
        for place in [0, 1, -1, BIG] + no_wholes():
            self.assertIs(has_place((), place), False)

    def test_what_is_no_whole_number_is_no_place_of_it(self):
        for seat, thing in enumerate(no_wholes() + [Seeming(), Thorny(), ((0, 1),)]):
            with self.subTest(seat):
                self.assertIs(has_place(((-5, 5),), thing), False)
                self.assertIs(has_place(((0, 1), (1, 2)), thing), False)


class AskedAgain(unittest.TestCase):
    def test_the_same_question_has_the_same_answer(self):
        one = ((0, 2), (2, 4), (6, 9))
        other = ((1, 3), (3, 7))

        def ask():
            return (
                short_form(one), either(one, other), both(one, other), without(one, other), without(other, one),
                size_of(one), has_place(one, 3), has_place(one, 4), check_work(one),
            )

        first = ask()
        for _ in range(3):
            refused(self, BadWork, short_form, [one])
            self.assertEqual(ask(), first)
        self.assertEqual((one, other), (((0, 2), (2, 4), (6, 9)), ((1, 3), (3, 7))))

    def test_what_the_asker_does_later_changes_nothing(self):
        rows = [(0, 2), (2, 4)]
        told = short_form(tuple(rows))
        rows.append((9, 10))
        rows[0] = (0, 1)
        self.assertEqual(told, ((0, 4),))


class Sizes(unittest.TestCase):
    def ask_all(self, one, other):
        check_work(one)
        return (short_form(one), either(one, other), both(one, other), without(one, other), size_of(one))

    def test_two_thousand_places_each_a_stretch(self):
        for base in (0, -1000, BIG, -BIG):
            touching = tuple((base + step, base + step + 1) for step in range(2000))
            apart = tuple((base + 2 * step, base + 2 * step + 1) for step in range(2000))
            told = in_short_time(self, lambda: self.ask_all(touching, apart))
            first, second = places_of(touching), places_of(apart)
            self.assertEqual(told, (
                ((base, base + 2000),), short_of(first | second), short_of(first & second), short_of(first - second),
                2000))
            told = in_short_time(self, lambda: self.ask_all(apart, touching))
            self.assertEqual(told, (
                apart, short_of(first | second), short_of(first & second), short_of(second - first), 2000))

    def test_one_stretch_of_two_thousand_places(self):
        for base in (0, -1000, BIG, -BIG):
            one = ((base, base + 2000),)
            other = ((base + 500, base + 2500),)
            told = in_short_time(self, lambda: self.ask_all(one, other))
            self.assertEqual(told, (
                one, ((base, base + 2500),), ((base + 500, base + 2000),), ((base, base + 500),), 2000))

    def test_asking_for_places(self):
        work = tuple((BIG + 2 * step, BIG + 2 * step + 1) for step in range(2000))
        told = in_short_time(self, lambda: [has_place(work, BIG + 40 * step) for step in range(-5, 105)])
        self.assertEqual(told, [False] * 5 + [True] * 100 + [False] * 5)


if __name__ == "__main__":
    unittest.main()
