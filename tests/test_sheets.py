import itertools
import unittest

from lentwork.errors import BadPlace, BadWork, Twice
from lentwork.sheets import Sheet
from tests.support import (
    BIG, Thorny, all_works, assert_tuples_of_wholes, in_short_time, no_numbers, no_wholes, no_works, places_of,
    refused, runs_of, short_of,
)


def seen(sheet, places):
    """All that a sheet tells."""
    return (sheet.all_results(), sheet.left_work(), [sheet.result_at(place) for place in places])


class NewSheets(unittest.TestCase):
    def test_no_place_has_a_result(self):
        for work in all_works(-2, 2):
            with self.subTest(work):
                sheet = Sheet(work)
                self.assertEqual(sheet.all_results(), [])
                self.assertIs(type(sheet.all_results()), list)
                self.assertEqual(sheet.left_work(), short_of(places_of(work)))
                for place in range(-4, 5):
                    self.assertIsNone(sheet.result_at(place))

    def test_what_is_no_work_is_refused(self):
        for seat, thing in enumerate(no_works()):
            with self.subTest(seat):
                refused(self, BadWork, Sheet, thing)

    def test_the_sheet_of_no_stretch(self):
        sheet = Sheet(())
        for place in (0, 1, -1, BIG):
            refused(self, BadPlace, sheet.lay, place, (1,))
            self.assertIsNone(sheet.lay(place, ()))
        self.assertEqual(seen(sheet, (0, 1)), ([], (), [None, None]))

    def test_sheets_of_one_work_are_their_own(self):
        work = ((0, 3),)
        one, other = Sheet(work), Sheet(work)
        one.lay(0, (7,))
        self.assertEqual(seen(other, range(3)), ([], ((0, 3),), [None] * 3))
        other.lay(0, (8, 9))
        self.assertEqual(seen(one, range(3)), ([(0, (7,))], ((1, 3),), [7, None, None]))
        self.assertEqual(seen(Sheet(work), range(3)), ([], ((0, 3),), [None] * 3))


class Laying(unittest.TestCase):
    def test_numbers_go_one_a_place(self):
        sheet = Sheet(((10, 20),))
        self.assertIsNone(sheet.lay(12, (5, 4, 3)))
        self.assertEqual([sheet.result_at(place) for place in range(10, 20)], [None, None, 5, 4, 3] + [None] * 5)
        self.assertEqual(sheet.all_results(), [(12, (5, 4, 3))])
        self.assertEqual(sheet.left_work(), ((10, 12), (15, 20)))

    def test_at_the_ends_of_a_stretch_and_beside_them(self):
        for base in (0, -1, -3, 5, BIG, -BIG):
            with self.subTest(base):
                sheet = Sheet(((base, base + 3),))
                places = range(base - 2, base + 6)
                for place, numbers in ((-1, (1,)), (3, (1,)), (4, (1,)), (2, (1, 2)), (-1, (1, 2)), (0, (1, 2, 3, 4))):
                    refused(self, BadPlace, sheet.lay, base + place, numbers)
                self.assertEqual(seen(sheet, places), ([], ((base, base + 3),), [None] * 8))
                sheet.lay(base, (1,))
                sheet.lay(base + 2, (3,))
                self.assertEqual(sheet.all_results(), [(base, (1,)), (base + 2, (3,))])
                self.assertEqual(sheet.left_work(), ((base + 1, base + 2),))
                sheet.lay(base + 1, (2,))
                self.assertEqual(
                    seen(sheet, places), ([(base, (1, 2, 3))], (), [None, None, 1, 2, 3, None, None, None]))

    def test_a_whole_stretch_at_once(self):
        sheet = Sheet(((-2, 2), (5, 7)))
        sheet.lay(-2, (1, 2, 3, 4))
        sheet.lay(5, (5, 6))
        self.assertEqual(sheet.all_results(), [(-2, (1, 2, 3, 4)), (5, (5, 6))])
        self.assertEqual(sheet.left_work(), ())

    def test_across_stretches_that_touch(self):
        sheet = Sheet(((0, 2), (2, 3), (3, 6)))
        sheet.lay(1, (1, 2, 3, 4))
        self.assertEqual(sheet.all_results(), [(1, (1, 2, 3, 4))])
        self.assertEqual(sheet.left_work(), ((0, 1), (5, 6)))

    def test_results_that_touch_are_told_as_one(self):
        sheet = Sheet(((0, 2), (2, 4), (5, 7)))
        sheet.lay(2, (30, 40))
        sheet.lay(5, (60,))
        sheet.lay(0, (10,))
        self.assertEqual(sheet.all_results(), [(0, (10,)), (2, (30, 40)), (5, (60,))])
        sheet.lay(1, (20,))
        self.assertEqual(sheet.all_results(), [(0, (10, 20, 30, 40)), (5, (60,))])
        self.assertEqual(sheet.left_work(), ((6, 7),))

    def test_not_across_a_gap(self):
        sheet = Sheet(((0, 2), (3, 5)))
        for place, count in ((1, 2), (1, 3), (0, 5), (2, 1), (2, 2), (0, 3)):
            refused(self, BadPlace, sheet.lay, place, (1,) * count)
        self.assertEqual(seen(sheet, range(5)), ([], ((0, 2), (3, 5)), [None] * 5))

    def test_no_numbers_at_any_place(self):
        sheet = Sheet(((0, 2), (4, 6)))
        sheet.lay(0, (7,))
        before = seen(sheet, range(-1, 8))
        for place in list(range(-3, 9)) + [BIG, -BIG]:
            with self.subTest(place):
                self.assertIsNone(sheet.lay(place, ()))
                self.assertEqual(seen(sheet, range(-1, 8)), before)

    def test_no_numbers_still_ask_for_a_place(self):
        sheet = Sheet(((0, 2),))
        for seat, thing in enumerate(no_wholes()):
            with self.subTest(seat):
                refused(self, BadPlace, sheet.lay, thing, ())

    def test_any_whole_number_is_a_result(self):
        numbers = (0, -1, 1, BIG * 10 - 1, -BIG * 10 + 1, 0, 0)
        sheet = Sheet(((0, 7),))
        for place, number in enumerate(numbers):
            sheet.lay(place, (number,))
            self.assertEqual(sheet.result_at(place), number)
            self.assertEqual(sheet.left_work(), ((place + 1, 7),) if place < 6 else ())
            refused(self, Twice, sheet.lay, place, (number,))
        self.assertEqual(sheet.all_results(), [(0, numbers)])


class RefusedLayings(unittest.TestCase):
    def setUp(self):
        self.sheet = Sheet(((0, 4), (4, 6), (8, 10)))
        self.sheet.lay(1, (11, 12))
        self.sheet.lay(8, (18,))
        self.before = seen(self.sheet, range(-1, 12))
        self.assertEqual(self.before[:2], ([(1, (11, 12)), (8, (18,))], ((0, 1), (3, 6), (9, 10))))

    def refuse(self, kind, place, numbers):
        refused(self, kind, self.sheet.lay, place, numbers)
        self.assertEqual(seen(self.sheet, range(-1, 12)), self.before)

    def test_places_that_are_no_whole_numbers(self):
        for seat, thing in enumerate(no_wholes()):
            with self.subTest(seat):
                self.refuse(BadPlace, thing, (5,))

    def test_numbers_that_are_none(self):
        for seat, thing in enumerate(no_numbers()):
            with self.subTest(seat):
                self.refuse(BadPlace, 3, thing)

    def test_numbers_that_are_none_at_places_outside(self):
        for seat, thing in enumerate(no_numbers()):
            with self.subTest(seat):
                self.refuse(BadPlace, 100, thing)
                self.refuse(BadPlace, None, thing)

    def test_places_that_are_none_of_the_work(self):
        for place, count in ((-1, 1), (-1, 2), (6, 1), (7, 1), (5, 2), (5, 3), (10, 1), (9, 2), (-9, 1), (BIG, 1)):
            with self.subTest((place, count)):
                self.refuse(BadPlace, place, (5,) * count)

    def test_places_that_have_a_result(self):
        for place, count in ((1, 1), (2, 1), (1, 2), (0, 2), (0, 3), (0, 4), (2, 2), (2, 4), (0, 6), (8, 1), (8, 2)):
            with self.subTest((place, count)):
                self.refuse(Twice, place, (5,) * count)

    def test_the_same_number_again_is_refused_too(self):
        self.refuse(Twice, 1, (11,))
        self.refuse(Twice, 1, (11, 12))
        self.refuse(Twice, 8, (18,))

    def test_a_bad_place_is_told_ahead_of_a_second_result(self):
        self.refuse(BadPlace, 8, (5, 5, 5))
        self.refuse(BadPlace, 2, (5, 5, 5, 5, 5))
        self.refuse(BadPlace, -1, (5, 5, 5))
        self.refuse(BadPlace, 7, (5, 5))
        self.refuse(BadPlace, 1, (True,))
        self.refuse(BadPlace, 1, [5])
        self.refuse(BadPlace, 1, (5, None))
        self.refuse(BadPlace, True, (5,))
        self.refuse(BadPlace, 1.0, (5,))

    def test_what_is_left_can_still_be_laid(self):
        self.refuse(Twice, 0, (5, 5))
        self.refuse(BadPlace, 9, (5, 5))
        self.sheet.lay(0, (10,))
        self.sheet.lay(9, (19,))
        self.sheet.lay(3, (13, 14, 15))
        self.assertEqual(self.sheet.all_results(), [(0, (10, 11, 12, 13, 14, 15)), (8, (18, 19))])
        self.assertEqual(self.sheet.left_work(), ())

    def test_a_refused_list_stays_as_it_is(self):
        numbers = [5, 6]
        self.refuse(BadPlace, 3, numbers)
        self.assertEqual(numbers, [5, 6])
        numbers.append(7)
        self.assertEqual(seen(self.sheet, range(-1, 12)), self.before)


class Told(unittest.TestCase):
    def setUp(self):
        self.sheet = Sheet(((-2, 1), (1, 3), (5, 6)))
        self.sheet.lay(0, (70, 71))
        self.sheet.lay(5, (75,))

    def test_the_result_at_anything(self):
        for seat, thing in enumerate(no_wholes() + [Thorny(), (0,), ((0, 1),)]):
            with self.subTest(seat):
                self.assertIsNone(self.sheet.result_at(thing))

    def test_the_result_at_places_without_one(self):
        for place in (-3, -2, -1, 2, 3, 4, 6, BIG, -BIG):
            self.assertIsNone(self.sheet.result_at(place))

    def test_tuples_through_and_through(self):
        for row in self.sheet.all_results():
            assert_tuples_of_wholes(self, row)
            self.assertEqual(len(row), 2)
        assert_tuples_of_wholes(self, self.sheet.left_work())
        assert_tuples_of_wholes(self, Sheet(((0, 1), (1, 2))).left_work())

    def test_a_told_list_is_the_askers_own(self):
        right = [(0, (70, 71)), (5, (75,))]
        told = self.sheet.all_results()
        self.assertEqual(told, right)
        self.assertIsNot(self.sheet.all_results(), told)
        told.append((9, (9,)))
        told[0] = None
        self.assertEqual(self.sheet.all_results(), right)
        self.sheet.all_results().clear()
        self.assertEqual(self.sheet.all_results(), right)
        self.assertEqual(self.sheet.left_work(), ((-2, 0), (2, 3)))

    def test_a_told_list_does_not_grow_later(self):
        told = self.sheet.all_results()
        left = self.sheet.left_work()
        self.sheet.lay(2, (72,))
        self.assertEqual(told, [(0, (70, 71)), (5, (75,))])
        self.assertEqual(left, ((-2, 0), (2, 3)))
        self.assertEqual(self.sheet.all_results(), [(0, (70, 71, 72)), (5, (75,))])
        self.assertEqual(self.sheet.left_work(), ((-2, 0),))

    def test_the_list_of_an_empty_sheet_is_the_askers_own(self):
        sheet = Sheet(((0, 1),))
        sheet.all_results().append((0, (1,)))
        self.assertEqual(seen(sheet, (0,)), ([], ((0, 1),), [None]))
        self.assertEqual(Sheet(((0, 1),)).all_results(), [])

    def test_telling_changes_nothing(self):
        first = seen(self.sheet, range(-4, 8))
        for _ in range(3):
            self.assertEqual(seen(self.sheet, range(-4, 8)), first)
        self.sheet.lay(-2, (68, 69))
        self.assertEqual(self.sheet.all_results(), [(-2, (68, 69, 70, 71)), (5, (75,))])

    def test_what_was_handed_in_is_not_changed(self):
        work = ((0, 2), (2, 4))
        numbers = (1, 2, 3)
        sheet = Sheet(work)
        sheet.lay(0, numbers)
        self.assertEqual((work, numbers), (((0, 2), (2, 4)), (1, 2, 3)))

    def test_lists_that_tuples_were_made_of_may_change(self):
        rows = [(0, 2), (2, 4)]
        numbers = [1, 2]
        sheet = Sheet(tuple(rows))
        sheet.lay(0, tuple(numbers))
        rows.append((8, 9))
        numbers[0] = 50
        self.assertEqual(seen(sheet, (0, 1, 8)), ([(0, (1, 2))], ((2, 4),), [1, 2, None]))
        refused(self, BadPlace, sheet.lay, 8, (1,))


class EverySmallRow(unittest.TestCase):
    """Rows of layings, each beside a plain dict that counts place by place."""

    def expect(self, laid, places, place, numbers):
        row = range(place, place + len(numbers))
        if any(at not in places for at in row):
            return BadPlace
        if any(at in laid for at in row):
            return Twice
        return None

    def walk(self, work, layings):
        sheet, laid, places = Sheet(work), {}, places_of(work)
        for step, (place, count) in enumerate(layings):
            numbers = tuple(10 * step + seat for seat in range(count))
            kind = self.expect(laid, places, place, numbers)
            if kind is None:
                self.assertIsNone(sheet.lay(place, numbers))
                laid.update(zip(range(place, place + count), numbers))
            else:
                refused(self, kind, sheet.lay, place, numbers)
        self.assertEqual(sheet.all_results(), runs_of(laid), (work, layings))
        self.assertEqual(sheet.left_work(), short_of(places - set(laid)), (work, layings))
        self.assertEqual([sheet.result_at(place) for place in range(-3, 6)], [laid.get(at) for at in range(-3, 6)])

    def test_two_layings_on_every_small_work(self):
        single = [(place, count) for place in range(-2, 4) for count in range(4)]
        for work in all_works(-1, 3):
            for layings in itertools.product(single, repeat=2):
                self.walk(work, layings)

    def test_five_layings_on_some_works(self):
        single = [(-2, 1), (-1, 2), (0, 1), (1, 2), (2, 1), (3, 2)]
        for work in (((-2, 4),), ((-2, 1), (1, 5)), ((-2, 0), (1, 3), (3, 5))):
            for layings in itertools.permutations(single, 5):
                self.walk(work, layings)


class Sizes(unittest.TestCase):
    def fill(self, work, order):
        sheet = Sheet(work)
        for place in order:
            sheet.lay(place, (place * 3,))
        return (sheet.all_results(), sheet.left_work(), [sheet.result_at(place) for place in order])

    def test_two_thousand_places_one_by_one(self):
        for base in (0, -1000, BIG, -BIG):
            work = ((base, base + 1000), (base + 1000, base + 2000))
            places = list(range(base, base + 2000))
            for order in (places, places[::-1], places[::2] + places[1::2]):
                told = in_short_time(self, lambda: self.fill(work, order))
                self.assertEqual(told, (
                    [(base, tuple(place * 3 for place in places))], (), [place * 3 for place in order]))

    def test_two_thousand_stretches_of_one_place(self):
        work = tuple((BIG + 2 * step, BIG + 2 * step + 1) for step in range(2000))
        told = in_short_time(self, lambda: self.fill(work, [low for low, high in work[::2]]))
        self.assertEqual(told[0], [(low, (low * 3,)) for low, high in work[::2]])
        self.assertEqual(told[1], work[1::2])

    def test_two_thousand_numbers_of_eighteen_figures_at_once(self):
        numbers = tuple(BIG * 10 - 1 - step for step in range(2000))
        sheet = Sheet(tuple((step, step + 1) for step in range(2000)))
        in_short_time(self, lambda: sheet.lay(0, numbers))
        self.assertEqual(in_short_time(self, sheet.all_results), [(0, numbers)])
        self.assertEqual(sheet.left_work(), ())


if __name__ == "__main__":
    unittest.main()
