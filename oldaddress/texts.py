"""Texts of lands, histories and desks, line by line, and how they are read."""

from oldaddress.checks import FIGURES, is_from_one, is_name
from oldaddress.deedforms import FORMS
from oldaddress.desks import Desk
from oldaddress.entries import promise_told
from oldaddress.histories import History
from oldaddress.lands import FEWEST, Land
from oldaddress.promises import keeps
from oldaddress.refusals import BadText, BadThing

HEADS = ("land", "history", "desk")
WATCHING = ("watch", "hold")
JUST = "just"
EVER = "ever"

# Python makes integers of some thousand figures at most, so longer numbers are taken part by part.
PART = 18
GREAT = 1000000000000000000


def figures_of(number):
    """A number as Python writes it, however great."""
    parts = []
    while number >= GREAT:
        number, rest = divmod(number, GREAT)
        parts.append(str(rest).zfill(PART))
    return "".join([str(number), *parts[::-1]])


def number_told(word):
    """The number that a word is as Python writes it, None if it is none."""
    if not word or not all([sign in FIGURES for sign in word]) or (word[0] == "0" and word != "0"):
        return None
    first = len(word) % PART
    number = int("0" + word[:first])
    for begin in range(first, len(word), PART):
        number = number * GREAT + int(word[begin : begin + PART])
    return number


def text_of(part):
    return part if isinstance(part, str) else figures_of(part)


def line_of(parts):
    return " ".join([text_of(part) for part in parts])


def promise_line(promise, is_held):
    policy, width, life = promise
    word = "hold" if is_held else "watch"
    return line_of([word, policy, JUST if width is None else width, EVER if life is None else life])


def lines_of(thing):
    """The lines of a thing, None if it has no text."""
    if isinstance(thing, Land):
        return ["land", line_of(["addresses", *thing.addresses()]), line_of(["most", thing.most()])]
    if isinstance(thing, History):
        return ["history", *lines_of(thing.land())[1:], *[line_of(deed) for deed in thing.deeds()]]
    if isinstance(thing, Desk):
        watched = [promise_line(promise, is_held) for promise, is_held, holds in thing.watched()]
        return ["desk", *lines_of(thing.history())[1:], *watched]
    return None


def write(thing):
    """The text of a land, a history or a desk."""
    lines = lines_of(thing)
    if lines is None:
        raise BadThing(thing)
    return "".join([line + "\n" for line in lines])


def names_told(words):
    """The names of the line of addresses, None if it is none."""
    names = words[1:]
    if words[0] != "addresses" or len(names) < FEWEST or not all([is_name(name) for name in names]):
        return None
    return names if len(set(names)) == len(names) else None


def most_told(words):
    """The number of the line of how many pieces may live, None if it is none."""
    if words[0] != "most" or len(words) != 2:
        return None
    most = number_told(words[1])
    return most if is_from_one(most) else None


def deed_told(words):
    """What a line tells as a deed, numbers as numbers; whether it is one is seen when it is done."""
    form = FORMS.get(words[0], "")
    if len(words) != len(form) + 1:
        return None
    return (words[0], *[word if kind == "a" else number_told(word) for kind, word in zip(form, words[1:])])


def promise_in(words):
    """The promise of a line that watches or holds one, None if it tells none."""
    if len(words) != 4:
        return None
    width = None if words[2] == JUST else number_told(words[2])
    life = None if words[3] == EVER else number_told(words[3])
    if (width is None and words[2] != JUST) or (life is None and words[3] != EVER):
        return None
    return promise_told((words[1], width, life))


def order_told(words):
    """The order by which the promise of a line is watched or held, None if it tells none."""
    promise = promise_in(words) if words[0] in WATCHING else None
    return None if promise is None else (words[0], promise)


class Reading:
    """The lines of a text, the first of which were read."""

    def __init__(self, text):
        if not isinstance(text, str):
            raise BadText(0)
        self._lines = text.split("\n")
        # Behind the last line feed there is nothing; what stands there is a line without its own.
        self._whole = len(self._lines) - 1
        self._read = 0

    def is_at_end(self):
        return self._read == self._whole and self._lines[-1] == ""

    def words(self):
        """The words of the next line; whoever makes nothing of them calls refuse."""
        self._read += 1
        if self._read > self._whole:
            self.refuse()
        return self._lines[self._read - 1].split(" ")

    def refuse(self):
        raise BadText(self._read)

    def head(self):
        words = self.words()
        if len(words) != 1 or words[0] not in HEADS:
            self.refuse()
        return words[0]

    def land(self):
        """The land of the two lines of addresses and of how many pieces may live."""
        names = names_told(self.words())
        if names is None:
            self.refuse()
        most = most_told(self.words())
        if most is None:
            self.refuse()
        return Land(names, most)

    def is_at_promise(self):
        """Whether the next line is one about a promise."""
        return self._lines[self._read].split(" ")[0] in WATCHING

    def history(self, land):
        """The history of the deeds of the next lines, to the end or to the first line about a promise."""
        history = History(land, [])
        while not self.is_at_end() and not self.is_at_promise():
            deed = deed_told(self.words())
            if not history.can(deed):
                self.refuse()
            history = history.then(deed)
        return history

    def orders(self, history):
        """The orders of all lines to the end, by which promises are watched behind a history, each once."""
        found = []
        while not self.is_at_end():
            order = order_told(self.words())
            if order is None or order[1] in [promise for word, promise in found]:
                self.refuse()
            if order[0] == "hold" and not keeps(history, order[1]):
                self.refuse()
            found.append(order)
        return found

    def check_end(self):
        """That there are no more lines; the next one is refused."""
        if not self.is_at_end():
            self.words()
            self.refuse()


def desk_of(history, orders):
    """The desk to which the deeds of a history were given, and then some orders."""
    desk = Desk(history.land())
    for deed in history.deeds():
        desk.give(("do", deed))
    for order in orders:
        desk.give(order)
    return desk


def read(text):
    """The thing that has a text."""
    reading = Reading(text)
    head = reading.head()
    land = reading.land()
    if head == "land":
        reading.check_end()
        return land
    history = reading.history(land)
    if head == "desk":
        return desk_of(history, reading.orders(history))
    reading.check_end()
    return history
