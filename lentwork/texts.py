"""A book's text: a head and lines, written and read."""

from lentwork.books import check_bounds
from lentwork.errors import NoText
from lentwork.stretches import check_work

# The lines of numbers alone, with how many words each has; the others have a worker, or any count of numbers.
PLAIN_WORDS = {"back": 3, "cut": 3, "join": 2}


def row_text(parts):
    return " ".join([str(part) for part in parts]) + "\n"


def head_text(work, span, every, least):
    parts = ["work"]
    for low, high in work:
        parts.extend([low, high])
    return row_text(parts + ["span", span, "every", every, "least", least])


def line_text(line):
    if line[0] == "told":
        return row_text(line[:4] + line[4])
    return row_text(line)


def is_number(word):
    figures = word[1:] if word.startswith("-") else word
    if not 1 <= len(figures) <= 18 or not all(["0" <= sign <= "9" for sign in figures]):
        return False
    return figures[0] != "0" or word == "0"


def read_number(word):
    if not is_number(word):
        raise NoText("a number is not written as one")
    return int(word)


def read_numbers(words):
    return tuple([read_number(word) for word in words])


def read_words(row):
    words = row.split(" ")
    for word in words:
        # Two blanks, or one at an end, leave a word without signs.
        if not word or not all(["!" <= sign <= "~" for sign in word]):
            raise NoText("words have one sign or more, and one blank between")
    return words


def read_pairs(words):
    numbers = read_numbers(words)
    if len(numbers) % 2 == 1:
        raise NoText("lows and highs come in pairs")
    return tuple([(numbers[at], numbers[at + 1]) for at in range(0, len(numbers), 2)])


def read_head(row):
    words = read_words(row)
    # The work is as long as it likes: the bounds are counted from the end.
    if len(words) < 7 or [words[0], words[-6], words[-4], words[-2]] != ["work", "span", "every", "least"]:
        raise NoText("a head tells work, span, every and least")
    work = read_pairs(words[1:-6])
    return (work,) + read_numbers([words[-5], words[-3], words[-1]])


def read_line(row):
    words = read_words(row)
    if words[0] == "lent" and len(words) == 5:
        return ("lent", read_number(words[1]), words[2]) + read_numbers(words[3:])
    if words[0] == "told" and len(words) >= 4:
        return ("told",) + read_numbers(words[1:4]) + (read_numbers(words[4:]),)
    if PLAIN_WORDS.get(words[0]) == len(words):
        return (words[0],) + read_numbers(words[1:])
    raise NoText("a line is not written as one")


def whole_rows(text):
    # What stands behind the last line feed is no whole row.
    return text.split("\n")[:-1]


def read_text(text):
    if not isinstance(text, str):
        raise NoText("what is read is a text")
    rows = whole_rows(text)
    if not rows:
        raise NoText("without a line feed there is no head")
    head = read_head(rows[0])
    lines = tuple([read_line(row) for row in rows[1:]])
    check_work(head[0])
    check_bounds(head[1], head[2], head[3])
    return head + (lines,)
