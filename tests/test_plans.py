import unittest

from lentwork.errors import BadBound, BadPlan, BadWork
from lentwork.runs import check_plan, run
from tests.support import BIG, Asked, Thorny, no_wholes, no_workers, no_works, refused


class Plans(unittest.TestCase):
    RIGHT = (
        (), (("a", 1, ()),), (("a", 1000, ((1, 2),)), ("b", 1, ())), (("abcdefgh", 7, ((-5, 0), (0, 3), (9, BIG))),),
        (("z", 2, ((-BIG, BIG),)), ("y", 2, ((-BIG, BIG),)), ("x", 2, ())),
        tuple((first + second, 5, ((3, 4),)) for first in "abcdefgh" for second in "abcdefgh"),
        (("a", 1, tuple((2 * step, 2 * step + 1) for step in range(3000))),),
    )

    def test_right_plans(self):
        for plan in self.RIGHT:
            self.assertIsNone(check_plan(plan))

    def refuse(self, plan):
        refused(self, BadPlan, check_plan, plan)
        asked = Asked()
        refused(self, BadPlan, run, ((0, 3),), 2, 1, 1, plan, asked, 5)
        self.assertEqual(asked.places, [])

    def wrong_rows(self):
        """Things that are no worker of a plan."""
        rows = [(thing, 1, ()) for thing in no_workers()]
        rows += [("bob", thing, ()) for thing in no_wholes() + [0, -1, 1001, 5000, BIG, -BIG]]
        rows += [("bob", 1, thing) for thing in no_works()]
        rows += [("bob", 1), ("bob",), (), ("bob", 1, (), ()), ["bob", 1, ()], "bob", ("bob", (), 1), (1, "bob", ())]
        return rows + [thing for thing in no_wholes() if not isinstance(thing, tuple)] + [0, 5, Thorny()]

    def test_wrong_rows(self):
        ann, cy = ("ann", 3, ((2, 4),)), ("cy", 1, ())
        for seat, row in enumerate(self.wrong_rows()):
            with self.subTest(seat):
                for plan in ((row,), (ann, row), (row, cy), (ann, row, cy)):
                    self.refuse(plan)

    def test_no_tuples(self):
        row = ("bob", 1, ())
        for seat, plan in enumerate(no_wholes() + [
                0, 7, [row], {row: 1}, {row}, iter((row,)), row, "bob", [], list(self.RIGHT[1]), Thorny()]):
            with self.subTest(seat):
                if not (isinstance(plan, tuple) and not plan):
                    self.refuse(plan)

    def test_workers_that_are_alike(self):
        self.refuse((("ann", 1, ()), ("ann", 1, ())))
        self.refuse((("ann", 1, ()), ("bob", 2, ()), ("ann", 3, ((1, 2),))))
        self.refuse((("a", 1, ()), ("b", 2, ()), ("c", 3, ()), ("c", 3, ())))
        self.assertIsNone(check_plan((("ann", 1, ()), ("an", 1, ()), ("anna", 1, ()))))

    def test_ticks(self):
        plan, asked = (("ann", 1, ()),), Asked()
        for seat, ticks in enumerate(no_wholes() + [-1, -BIG, 5001, 9999, BIG]):
            with self.subTest(seat):
                refused(self, BadPlan, run, ((0, 3),), 2, 1, 1, plan, asked, ticks)
        self.assertEqual(asked.places, [])
        self.assertIsNone(run(((0, 3),), 2, 1, 1, plan, asked, 0)[0])
        self.assertEqual(run(((0, 3),), 2, 1, 1, plan, asked, 5000)[0], 3)

    def test_work_and_bounds_are_refused_first(self):
        asked = Asked()
        for seat, work in enumerate(no_works()):
            with self.subTest(seat):
                refused(self, BadWork, run, work, 2, 1, 1, (("ann", 1, ()),), asked, 5)
                refused(self, BadWork, run, work, 0, 1, 1, None, asked, -1)
        wrong = [(0, 1, 1), (1, 0, 1), (1, 1, 0), (1, 2, 1), (-1, 1, 1)]
        for thing in no_wholes():
            wrong += [(thing, 1, 1), (1, thing, 1), (1, 1, thing)]
        for seat, bounds in enumerate(wrong):
            with self.subTest(seat):
                refused(self, BadBound, run, ((0, 3),), *bounds, (("ann", 1, ()),), asked, 5)
                refused(self, BadBound, run, ((0, 3),), *bounds, (("ann", 0, ()),), asked, 5001)
        refused(self, BadPlan, run, ((0, 3),), 1, 1, 1, (("Ann", 1, ()),), asked, 5001)
        refused(self, BadPlan, run, (), 1, 1, 1, (("Ann", 1, ()),), asked, 5)
        refused(self, BadPlan, run, (), 1, 1, 1, (), asked, -1)
        self.assertEqual(asked.places, [])


if __name__ == "__main__":
    unittest.main()
