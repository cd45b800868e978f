"""The desk: a bench that is told rows of words and answers by texts."""

from evenwebs.bench import Bench
from evenwebs.errors import NoRow
from evenwebs.errors import NoText
from evenwebs.knots import GREATEST_SIZE
from evenwebs.knots import many_knots
from evenwebs.texts import read
from evenwebs.texts import written
from evenwebs.turning import odd_threes

# How many words a row has, by its first one; of the long rows at least so many.
MANY_WORDS = {
    "put": 3, "tie": 4, "turn": 3, "about": 2, "drop": 2, "undo": 1,
    "show": 2, "numbers": 2, "knots": 3, "threes": 2, "names": 1,
}
LONG_ROWS = ("put", "turn")
ASKING_ROWS = ("show", "numbers", "knots", "threes", "names")
GREATEST_WRITTEN = 99


def words_in(row):
    if not isinstance(row, str):
        raise NoRow("a row is a text")
    words = row.split(" ")
    # A blank ahead, behind or twice leaves a word without signs.
    if "" in words or words[0] not in MANY_WORDS:
        raise NoRow("there is no such row")
    many = MANY_WORDS[words[0]]
    if len(words) < many or (len(words) > many and words[0] not in LONG_ROWS):
        raise NoRow("the row has too few or too many words")
    return words


def web_in(words):
    try:
        return read(" ".join(words))
    except NoText:
        raise NoRow("no web is written so")


def number_in(word, least, most):
    # Looked for among the numbers as they are written: no nought ahead and no strange figure is found there.
    if word not in [str(number) for number in range(least, most + 1)]:
        raise NoRow("no such number is written so")
    return int(word)


def place_in(word):
    return number_in(word, 0, GREATEST_WRITTEN)


def rising_in(words):
    places = [place_in(word) for word in words]
    if places != sorted(set(places)):
        raise NoRow("the places to turn at do not rise")
    return tuple(places)


def told_numbers(told):
    parts = told[1] if told[0] == "even" else told[1:]
    return " ".join([told[0]] + ["-" if part is None else str(part) for part in parts])


class Desk:
    def __init__(self):
        self.bench = Bench()

    def say(self, row):
        words = words_in(row)
        if words[0] in ASKING_ROWS:
            return self.answer(words)
        self.obey(words)
        return "ok"

    def obey(self, words):
        if words[0] == "put":
            self.bench.put(words[1], web_in(words[2:]))
        elif words[0] == "tie":
            self.bench.tie(words[1], place_in(words[2]), place_in(words[3]))
        elif words[0] == "turn":
            self.bench.turn(words[1], rising_in(words[2:]))
        elif words[0] == "about":
            self.bench.turn_about(words[1])
        elif words[0] == "drop":
            self.bench.drop(words[1])
        else:
            self.bench.undo()

    def answer(self, words):
        if words[0] == "names":
            names = self.bench.names()
            return " ".join(names) if names else "none"
        if words[0] == "numbers":
            return told_numbers(self.bench.numbers(words[1]))
        if words[0] == "knots":
            # What is no size is refused ahead of a name that isn't there.
            size = number_in(words[2], 1, GREATEST_SIZE)
            return str(many_knots(self.bench.web(words[1]), size))
        web = self.bench.web(words[1])
        return written(web) if words[0] == "show" else str(odd_threes(web))
