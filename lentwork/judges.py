"""The judge: whether a right house writes a text, or what is amiss first."""

from lentwork.books import Book
from lentwork.errors import BadBound, BadWork, LentError, NoText
from lentwork.lines import do_line
from lentwork.texts import read_head, read_line, whole_rows


def judged(text):
    rows = whole_rows(text) if isinstance(text, str) else []
    if not rows:
        return (0, "head")
    try:
        head = read_head(rows[0])
        book = Book(head[0], head[1], head[2], head[3])
    except NoText:
        return (0, "head")
    except BadWork:
        return (0, "work")
    except BadBound:
        return (0, "bound")
    for place, row in enumerate(rows[1:], start=1):
        amiss = amiss_in(book, row)
        if amiss is not None:
            return (place, amiss)
    if not text.endswith("\n"):
        return (len(rows), "torn")
    return None


def amiss_in(book, row):
    # The row is read first: a refusal of its deed is another thing than one of its form.
    try:
        line = read_line(row)
    except NoText:
        return "form"
    try:
        do_line(book, line)
    except LentError:
        return "deed"
    return None
