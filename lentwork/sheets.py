"""Sheets of results: for each place of a work a whole number, or none yet."""

from lentwork.errors import BadPlace, Twice
from lentwork.stretches import is_whole, short_form, without


def is_numbers(thing):
    return isinstance(thing, tuple) and all([is_whole(number) for number in thing])


class Sheet:
    def __init__(self, work):
        # In the short form places that follow one another lie in one stretch, so one look tells of a whole row.
        self.work = short_form(work)
        self.results = {}

    def lay(self, place, numbers):
        if not is_whole(place) or not is_numbers(numbers):
            raise BadPlace("numbers are a tuple of whole numbers, laid from a whole number on")
        if numbers and not self.holds_row(place, place + len(numbers)):
            raise BadPlace("a place is none of the work")
        # All places are looked at ahead of the first change: what is refused changes nothing.
        for at in range(place, place + len(numbers)):
            if at in self.results:
                raise Twice("a place has a result")
        for at, number in enumerate(numbers, start=place):
            self.results[at] = number

    def result_at(self, place):
        # True and 1.0 would be found as 1 in a dict, and a list can't be looked up at all.
        if not is_whole(place):
            return None
        return self.results.get(place)

    def all_results(self):
        return [(low, self.numbers_between(low, high)) for low, high in self.laid_work()]

    def left_work(self):
        return without(self.work, self.laid_work())

    def holds_row(self, first, behind):
        return any([low <= first and behind <= high for low, high in self.work])

    def laid_work(self):
        return short_form(tuple([(place, place + 1) for place in sorted(self.results)]))

    def numbers_between(self, low, high):
        return tuple([self.results[place] for place in range(low, high)])
