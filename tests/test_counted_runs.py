"""Runs beside a counting of their own, and what the promise says of every run."""

import random
import unittest

from lentwork.books import Book
from lentwork.errors import Lost
from lentwork.judges import judged
from lentwork.lines import do_line
from lentwork.runs import run
from lentwork.texts import head_text, line_text
from tests.support import Asked, PlainBook, places_of, runs_of, short_of


def ten(place):
    return 10 * place


def is_silent(silences, tick):
    return any(low <= tick < high for low, high in silences)


class PlainRun:
    """The run of point 20, on the book that is kept place by place."""

    def __init__(self, work, span, every, least, plan, doing, ticks):
        self.book, self.every, self.doing = PlainBook(work, span, every, least), every, doing
        self.held, self.kept = {}, {}
        self.done, self.over, self.lost, self.lines = 0, 0, 0, []
        self.ended = 0 if not work else None
        for tick in range(1, ticks + 1):
            if self.ended is None:
                self.go(plan, tick)

    def told(self):
        return (self.ended, self.done, self.over, runs_of(self.book.result), self.lines)

    def go(self, plan, tick):
        for worker, pace, silences in plan:
            if not is_silent(silences, tick):
                self.turn(worker, pace, tick)
            elif worker in self.held and (tick == 1 or not is_silent(silences, tick - 1)):
                self.kept[worker] = self.places_done(worker, pace)
        if len(self.book.result) == len(self.book.owner):
            self.ended = tick

    def turn(self, worker, pace, tick):
        if worker in self.kept:
            self.tell(worker, self.kept.pop(worker), tick)
        if worker not in self.held:
            self.ask(worker, tick)
        if worker in self.held:
            self.tell(worker, self.places_done(worker, pace), tick)

    def ask(self, worker, tick):
        lent_ahead = dict(self.book.lendings)
        refusal, told = self.book.do(("lend", worker, tick))
        if told is not None:
            self.over += told[1] in lent_ahead
            self.lines.append(("lent", tick, worker, told[0], told[1]))
            self.held[worker] = (told[0], told[2], told[3])

    def places_done(self, worker, pace):
        token, mark, end = self.held[worker]
        places = [place for place in range(mark, end) if place < mark + pace and place < mark + self.every]
        self.done += len(places)
        return tuple(self.doing(place) for place in places)

    def tell(self, worker, numbers, tick):
        token, mark, end = self.held.pop(worker)
        refusal, told = self.book.do(("tell", token, mark, numbers, tick))
        if refusal is None:
            self.lines.append(("told", tick, token, mark, numbers))
            if told[2] is not None:
                self.held[worker] = (token, told[0], told[1])
            return
        if refusal is not Lost:
            raise AssertionError(refusal)
        self.lost += 1


def some_work(dice):
    gaps = dice.choice((6, 40, 1000))
    places = {place for place in range(dice.randrange(-9, 1), 45) if dice.randrange(gaps)}
    short = short_of(places)
    # Some stretches touch.
    return tuple(part for low, high in short for part in (
        ((low, low + 1), (low + 1, high)) if high - low > 3 and not dice.randrange(3) else ((low, high),)))


def some_silences(dice):
    ticks = {tick for tick in range(-2, 60) if not dice.randrange(5)}
    long = {tick + step for tick in ticks if not dice.randrange(3) for step in range(dice.randrange(1, 12))}
    work = short_of(ticks | long if dice.randrange(2) else long)
    return tuple(part for low, high in work for part in (
        ((low, low + 1), (low + 1, high)) if high - low > 1 and not dice.randrange(3) else ((low, high),)))


def some_run(seed):
    """All that a run is made of, but the doing and the ticks; dice that fall alike each time."""
    dice = random.Random(seed)
    every = dice.randrange(1, 5)
    bounds = (dice.choice((1, 1, 2, 3, 6)), every, every + dice.randrange(4))
    names = dice.sample(("a", "b", "cy", "dora", "ann", "bob"), dice.randrange(1, 6))
    silent = dice.choice((0, 1, 1, 2))
    plan = tuple((name, dice.choice((1, 1, 1, 2, 3, 1000)),
                  some_silences(dice) if silent == 2 or silent == 1 and name != names[0] else ()) for name in names)
    return (some_work(dice), *bounds, plan)


def count_silences(plan):
    return sum(len(short_of(places_of(silences))) for worker, pace, silences in plan)


class Beside(unittest.TestCase):
    RUNS = 300

    def test_each_run_as_it_is_counted_plainly(self):
        over = lost = unended = 0
        for seed in range(self.RUNS):
            handed, ticks = some_run(seed), random.Random(seed).choice((7, 20, 90))
            asked, plainly_asked = Asked(), Asked()
            told, plain = run(*handed, asked, ticks), PlainRun(*handed, plainly_asked, ticks)
            self.assertEqual(told, plain.told(), handed)
            self.assertEqual(sorted(asked.places), sorted(plainly_asked.places), handed)
            self.assertEqual(told[1], len(asked.places))
            over, unended, lost = over + told[2], unended + (told[0] is None), lost + plain.lost
        # The runs are worth something only where all of this comes up in them.
        self.assertTrue(over > 50 and lost > 30 and 50 < unended < self.RUNS - 50, (over, lost, unended))

    def test_cut_short(self):
        """A run of fewer ticks is the beginning of the longer one."""
        for seed in range(40):
            handed = some_run(seed)
            whole = run(*handed, ten, 60)
            for ticks in range(61):
                told = run(*handed, ten, ticks)
                ended = whole[0] if whole[0] is not None and whole[0] <= ticks else None
                self.assertEqual(told[0], ended)
                self.assertEqual(told[4], [line for line in whole[4] if line[1] <= ticks])

    def test_the_bounds(self):
        """Done again, and in time."""
        for seed in range(self.RUNS):
            handed = some_run(seed)
            work, span, every, least, plan = handed
            size, silences = len(places_of(work)), count_silences(plan)
            most = size + silences * (span + 1)
            ended, done, over, results, lines = run(*handed, ten, most)
            self.assertLessEqual(done, size + every * silences)
            if silences == 0:
                self.assertEqual(done, size)
            if not all(worker[2] for worker in plan):
                self.assertIsNotNone(ended, handed)
                self.assertLessEqual(ended, most)

    def test_all_the_same(self):
        for seed in range(self.RUNS):
            handed = some_run(seed)
            ended, done, over, results, lines = run(*handed, lambda place: place * place - 7, 2000)
            self.assertIsNotNone(ended)
            self.assertEqual(results, runs_of({place: place * place - 7 for place in places_of(handed[0])}))

    def test_one_work_by_many_plans(self):
        work = ((-4, 9), (9, 12), (20, 31))
        ends = [run(work, *some_run(seed)[1:], ten, 2000)[3] for seed in range(60)]
        self.assertEqual(ends, [[(-4, tuple(map(ten, range(-4, 12)))), (20, tuple(map(ten, range(20, 31))))]] * 60)

    def test_lines_done_again(self):
        for seed in range(120):
            handed, ticks = some_run(seed), random.Random(seed).choice((7, 20, 90))
            told = run(*handed, Asked(), ticks)
            book, text = Book(*handed[:4]), head_text(*handed[:4])
            for line in told[4]:
                self.assertIs(type(line), tuple)
                self.assertIsNone(do_line(book, line))
                text += line_text(line)
            self.assertEqual(book.all_results(), told[3])
            self.assertEqual(told[0] is None, book.left_work() != ())
            self.assertIsNone(judged(text))
            self.assertEqual({line[0] for line in told[4]} | {"lent", "told"}, {"lent", "told"})

    def test_the_same_each_time_and_the_askers_own(self):
        for seed in range(20):
            handed = some_run(seed)
            one, other = run(*handed, ten, 40), run(*handed, ten, 40)
            self.assertEqual(one, other)
            one[3].clear()
            one[4].clear()
            self.assertEqual(run(*handed, ten, 40), other)
            for low, numbers in other[3]:
                self.assertIs(type(numbers), tuple)
            for line in other[4]:
                self.assertEqual(line[0] == "told", type(line[-1]) is tuple)


if __name__ == "__main__":
    unittest.main()
