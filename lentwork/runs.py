"""Runs: workers of unlike pace, silent now and then, who do a work tick by tick on a new book."""

from lentwork.books import Book, is_worker
from lentwork.errors import BadPlan, Lost
from lentwork.stretches import is_whole, is_work, short_form, size_of


def is_planned(thing):
    if not isinstance(thing, tuple) or len(thing) != 3:
        return False
    pace = thing[1]
    return is_worker(thing[0]) and is_whole(pace) and 1 <= pace <= 1000 and is_work(thing[2])


def check_plan(plan):
    if not isinstance(plan, tuple) or not all([is_planned(thing) for thing in plan]):
        raise BadPlan("a plan is a tuple of workers, each with a pace from 1 to 1000 and silences")
    if len(set([worker for worker, pace, silences in plan])) < len(plan):
        raise BadPlan("no worker stands in a plan twice")


def check_ticks(ticks):
    if not is_whole(ticks) or not 0 <= ticks <= 5000:
        raise BadPlan("the ticks of a run are a whole number from 0 to 5000")


class Runner:
    def __init__(self, worker, pace, silences):
        self.worker = worker
        self.pace = pace
        self.silences = short_form(silences)
        self.passed = 0
        self.silent = False
        self.token = None
        self.mark = 0
        self.end = 0
        self.untold = ()

    def come_to(self, tick):
        # Ticks only rise, so silences that are over are passed for good: there may be very many.
        while self.passed < len(self.silences) and self.silences[self.passed][1] <= tick:
            self.passed += 1
        self.silent = self.passed < len(self.silences) and self.silences[self.passed][0] <= tick

    def take(self, token, mark, end):
        self.token = token
        self.mark = mark
        self.end = end


class Course:
    def __init__(self, book, doing, left):
        self.book = book
        self.doing = doing
        self.left = left
        self.done = 0
        self.over = 0
        self.lines = []
        self.none_at = 0

    def go(self, runners, ticks):
        # Told is the tick behind which nothing is left, or None.
        tick = 0
        while self.left > 0 and tick < ticks:
            tick += 1
            for runner in runners:
                self.turn(runner, tick)
        return tick if self.left == 0 else None

    def turn(self, runner, tick):
        was_silent = runner.silent
        runner.come_to(tick)
        if not runner.silent:
            self.work_on(runner, tick)
        elif not was_silent and runner.token is not None:
            runner.untold = self.do_places(runner)

    def work_on(self, runner, tick):
        if runner.untold:
            self.tell_kept(runner, tick)
        if runner.token is None:
            self.ask_lending(runner, tick)
        if runner.token is not None:
            self.tell_numbers(runner, self.do_places(runner), tick)

    def tell_kept(self, runner, tick):
        try:
            self.tell_numbers(runner, runner.untold, tick)
        except Lost:
            runner.token = None
        runner.untold = ()

    def ask_lending(self, runner, tick):
        # Tellings free no piece, so where one worker got none, the later ones of this tick get none either.
        if self.none_at == tick:
            return
        chosen = self.book.choice(tick)
        if chosen is None:
            self.none_at = tick
            return
        # A chosen piece that has a lending is a late one; where one is cut, nothing is taken over.
        if chosen[0] == "piece" and self.book.piece_with(chosen[1]).is_lent():
            self.over += 1
        told = self.book.lend(runner.worker, tick)
        self.lines.append(("lent", tick, runner.worker, told[0], told[1]))
        runner.take(told[0], told[2], told[3])

    def do_places(self, runner):
        count = min(runner.pace, self.book.every, runner.end - runner.mark)
        doing = self.doing
        self.done += count
        return tuple([doing(place) for place in range(runner.mark, runner.mark + count)])

    def tell_numbers(self, runner, numbers, tick):
        told = self.book.tell(runner.token, runner.mark, numbers, tick)
        self.lines.append(("told", tick, runner.token, runner.mark, numbers))
        self.left -= told[0] - runner.mark
        runner.take(runner.token if told[2] is not None else None, told[0], told[1])


def run(work, span, every, least, plan, doing, ticks):
    book = Book(work, span, every, least)
    check_plan(plan)
    check_ticks(ticks)
    course = Course(book, doing, size_of(work))
    ended = course.go([Runner(worker, pace, silences) for worker, pace, silences in plan], ticks)
    return (ended, course.done, course.over, book.all_results(), course.lines)
