"""The desk: a house that is told its deeds and questions as lines of words, and answers by texts."""

from lentwork.errors import Fallen, NoLine
from lentwork.houses import House, Store, come_up
from lentwork.judges import judged
from lentwork.texts import read_numbers, read_pairs

# The words with how many each line has; book and tell have any count of numbers behind their first ones.
COUNTS = {"lend": 3, "back": 3, "cut": 3, "join": 2, "fall": 2, "come": 1, "pieces": 1, "results": 1, "left": 1,
          "text": 1, "judge": 1}


def is_order(words):
    count = len(words)
    # Two blanks, or one at an end, leave a word without signs.
    if "" in words:
        return False
    if words[0] == "book":
        return count >= 4 and count % 2 == 0
    if words[0] == "tell":
        return count >= 4
    return COUNTS.get(words[0]) == count


def order_words(line):
    words = line.split(" ") if isinstance(line, str) else [""]
    if not is_order(words):
        raise NoLine("no such line is known")
    return words


def order_numbers(words):
    # A worker may be any word: whether it is one the deed refuses.
    return read_numbers(words[2:] if words[0] == "lend" else words[1:])


def blanks_between(parts):
    return " ".join([str(part) for part in parts])


def rows_text(rows):
    return "\n".join([blanks_between(row) for row in rows])


def lent_answer(told):
    return "none" if told is None else blanks_between(told)


def told_answer(told):
    return blanks_between((told[0], told[1], "done" if told[2] is None else told[2]))


def piece_row(piece):
    lending = piece[4]
    if lending is not None:
        return piece[:4] + lending
    return piece[:4] + ("done" if piece[3] == piece[2] else "free",)


def question_answer(house, word):
    if word == "pieces":
        return rows_text([piece_row(piece) for piece in house.pieces()])
    if word == "results":
        return rows_text([(low,) + numbers for low, numbers in house.all_results()])
    return blanks_between([blanks_between(stretch) for stretch in house.left_work()])


def judge_answer(text):
    amiss = judged(text)
    return "right" if amiss is None else blanks_between(amiss)


def house_answer(house, words, numbers):
    word = words[0]
    if word == "lend":
        return lent_answer(house.lend(words[1], numbers[0]))
    if word == "tell":
        return told_answer(house.tell(numbers[0], numbers[1], numbers[3:], numbers[2]))
    if word == "back":
        house.give_back(numbers[0], numbers[1])
    elif word == "cut":
        house.cut(numbers[0], numbers[1])
    elif word == "join":
        house.join(numbers[0])
    else:
        return question_answer(house, word)
    return "ok"


class Desk:
    def __init__(self):
        self.store = None
        self.house = None

    def say(self, line):
        words = order_words(line)
        word = words[0]
        if word != "book" and self.store is None:
            raise NoLine("there is no store yet")
        numbers = order_numbers(words)
        if word == "book":
            return self.new_book(words, numbers)
        if word == "come":
            self.house = come_up(self.store)
            return "ok"
        if word == "fall":
            self.store.fall_next(numbers[0])
            return "ok"
        if word == "text":
            return self.store.whole_text()
        if word == "judge":
            return judge_answer(self.store.whole_text())
        try:
            return house_answer(self.house, words, numbers)
        except Fallen:
            return "fallen"

    def new_book(self, words, numbers):
        store = Store()
        # Both are kept only where the house could be made.
        self.house = House(store, read_pairs(words[4:]), numbers[0], numbers[1], numbers[2])
        self.store = store
        return "ok"
