"""Stretches of places, and work, which is a tuple of them."""

from lentwork.errors import BadWork


def is_whole(thing):
    # A truth is an int to Python, but here it is no number.
    return isinstance(thing, int) and not isinstance(thing, bool)


def is_stretch(thing):
    if not isinstance(thing, tuple) or len(thing) != 2:
        return False
    return is_whole(thing[0]) and is_whole(thing[1]) and thing[0] < thing[1]


def is_work(thing):
    if not isinstance(thing, tuple):
        return False
    for stretch in thing:
        if not is_stretch(stretch):
            return False
    for index in range(1, len(thing)):
        if thing[index][0] < thing[index - 1][1]:
            return False
    return True


def check_work(work):
    # The words don't show the thing: it may be anything, also what can't be shown.
    if not is_work(work):
        raise BadWork("work is a tuple of rising stretches (low, high)")


def merged(stretches):
    # Overlaps are met too, since the stretches of two works come here together, in the order of their lows.
    whole = []
    for low, high in stretches:
        if whole and low <= whole[-1][1]:
            whole[-1] = (whole[-1][0], max(whole[-1][1], high))
        else:
            whole.append((low, high))
    return tuple(whole)


def short_form(work):
    check_work(work)
    return merged(work)


def either(one, other):
    check_work(one)
    check_work(other)
    return merged(sorted(list(one) + list(other)))


def both(one, other):
    return without(one, without(one, other))


def without(one, other):
    kept = short_form(one)
    gone = short_form(other)
    rest = []
    first = 0
    for low, high in kept:
        # What ends ahead of this stretch touches no later one either, so it is passed for good.
        while first < len(gone) and gone[first][1] <= low:
            first += 1
        at = low
        index = first
        while index < len(gone) and gone[index][0] < high:
            if at < gone[index][0]:
                rest.append((at, gone[index][0]))
            at = gone[index][1]
            index += 1
        if at < high:
            rest.append((at, high))
    return tuple(rest)


def size_of(work):
    check_work(work)
    return sum([high - low for low, high in work])


def has_place(work, place):
    check_work(work)
    return is_whole(place) and any([low <= place < high for low, high in work])
