"""Lines of a book: deeds told as tuples, and done on a book."""

from lentwork.books import check_worker
from lentwork.errors import BadLine
from lentwork.stretches import is_whole

PARTS = {"lent": 5, "told": 5, "back": 3, "cut": 3, "join": 2}


def check_line(line):
    # The first part is looked up only where it is a text: of another kind it may not bear being compared.
    if not isinstance(line, tuple) or not line or not isinstance(line[0], str):
        raise BadLine("a line is a tuple that begins with a word")
    if PARTS.get(line[0]) != len(line):
        raise BadLine("a line is one of five words, with so many parts")


def do_lent(book, line):
    moment = line[1]
    worker = line[2]
    # What the lending itself refuses is told ahead of what the line says of it.
    check_worker(worker)
    coming = book.coming(moment)
    if coming is None:
        raise BadLine("nothing can be lent")
    if not is_whole(line[3]) or not is_whole(line[4]) or (line[3], line[4]) != coming:
        raise BadLine("another token or number comes")
    book.lend(worker, moment)


def do_line(book, line):
    check_line(line)
    word = line[0]
    if word == "lent":
        do_lent(book, line)
    elif word == "told":
        book.tell(line[2], line[3], line[4], line[1])
    elif word == "back":
        book.give_back(line[2], line[1])
    elif word == "cut":
        book.cut(line[1], line[2])
    else:
        book.join(line[1])
