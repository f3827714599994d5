"""Letters: written to some of those who learned an address, so that a promise asks for the others alone."""

from itertools import combinations

from oldaddress.checks import first_wrong, is_list, is_number, is_word_of
from oldaddress.doing import waited
from oldaddress.entries import by_address, clash_of, exact_promise, serves
from oldaddress.errors import CannotBeDone
from oldaddress.policies import days_to_try, dues_within
from oldaddress.refusals import BadLetters, BadPostage, BadRent, BadStamp


def is_letter(history, thing):
    """Whether any object is a letter: an address and two moments, the first at most the last."""
    if not is_list(thing) or len(thing) != 3 or not is_word_of(history.land().addresses(), thing[0]):
        return False
    if not is_number(thing[1]) or not is_number(thing[2]):
        return False
    return thing[1] <= thing[2] <= history.now()


def check_letters(history, letters):
    wrong = first_wrong(letters, lambda thing: is_letter(history, thing))
    if wrong is not None:
        raise BadLetters(wrong)


def check_postage(history, prices):
    moments = history.now() + 1
    wrong = first_wrong(prices, is_number)
    if wrong is not None:
        raise BadPostage(min(wrong, moments))
    if len(prices) != moments:
        raise BadPostage(min(len(prices), moments))


def check_stamp(stamp):
    if not is_number(stamp):
        raise BadStamp(stamp)


def is_reached(letters, holder, now):
    """Whether a letter is written to a holder, who does not learn the address now: that can be done again behind it."""
    if holder[1] == now:
        return False
    return any([address == holder[0] and first <= holder[1] <= last for address, first, last in letters])


def not_reached(history, promise, letters):
    """The served holders whom no letter reaches, with their dues."""
    policy, width, life = exact_promise(promise)
    check_letters(history, letters)
    now = history.now()
    comers = dues_within(history, policy, life, now)
    return [(holder, due) for holder, due in comers if not is_reached(letters, holder, now)]


def clash_with(history, promise, letters):
    """A clash of those who are not reached by letters, None if there is none."""
    return clash_of(history.land().addresses(), exact_promise(promise)[1], not_reached(history, promise, letters))


def holds_with(history, promise, letters):
    """Whether a promise holds for those who are not reached by letters."""
    return clash_with(history, promise, letters) is None


class Postage:
    """What letters cost: the prices of all moments of a history, and a stamp."""

    def __init__(self, history, prices, stamp):
        self._history = history
        self._prices = prices
        self._stamp = stamp

    def between(self, address, first, last):
        """What the moments from first to last cost at which an address was not free."""
        moments = range(first, last + 1)
        return sum([self._prices[moment] for moment in moments if self._history.scene(moment).lying[address]])

    def cost(self, letters):
        return sum([self._stamp + self.between(address, first, last) for address, first, last in letters])

    def letters_to(self, address, moments):
        """The cheapest letters to all who learned an address at ascending moments."""
        letters = []
        for moment in moments:
            if letters and self._is_nearer(address, letters[-1][2] + 1, moment - 1):
                letters[-1] = (address, letters[-1][1], moment)
            else:
                letters.append((address, moment, moment))
        return letters

    def _is_nearer(self, address, first, last):
        """Whether one letter goes over the moments from first to last, rather than that another one begins."""
        return first > last or self.between(address, first, last) < self._stamp


def letters_cost(history, letters, prices, stamp):
    """What letters cost together."""
    check_letters(history, letters)
    check_postage(history, prices)
    check_stamp(stamp)
    return Postage(history, prices, stamp).cost(letters)


def choices_to_stay(names, width, dues):
    """The unlike dues, or () and all tuples of so many addresses: those of one of these can stay."""
    if not dues:
        return [()]
    if width is None:
        return list({due: True for due in dues})
    return [(), *list(combinations(names, int(min(width, len(names)))))]


def staying_told(history, address, width, group):
    """The pairs of what may stay at an address and of the moments whose holders have to be reached then."""
    names = history.land().addresses()
    is_free = not history.scene(history.now()).lying[address]
    found = []
    for what in choices_to_stay(names, width, [due for holder, due in group]):
        # Who learns an address now is due to it and is reached by no letter.
        if is_free or serves(width, what, (address,)):
            found.append((what, [holder[1] for holder, due in group if not serves(width, what, due)]))
    return found


def what_may_stay(history, address, promise, prices, stamp):
    """The pairs of what may stay at an address and of what the cheapest letters to all others cost."""
    history.address_told(address)
    policy, width, life = exact_promise(promise)
    check_postage(history, prices)
    check_stamp(stamp)
    postage = Postage(history, prices, stamp)
    group = by_address(dues_within(history, policy, life, history.now())).get(address, [])
    found = []
    for what, moments in staying_told(history, address, width, group):
        found.append((what, postage.cost(postage.letters_to(address, moments))))
    return found


def cheapest_letters(history, promise, postage):
    """The pair of the least cost of letters with which a promise holds and of such letters."""
    policy, width, life = promise
    letters = []
    for address, group in by_address(dues_within(history, policy, life, history.now())).items():
        choices = []
        for what, moments in staying_told(history, address, width, group):
            choices.append(postage.letters_to(address, moments))
        letters.extend(min(choices, key=lambda choice: postage.cost(choice)))
    return (postage.cost(letters), letters)


def least_letters(history, promise, prices, stamp):
    """The least cost of letters with which a promise holds, and such letters."""
    told = exact_promise(promise)
    check_postage(history, prices)
    check_stamp(stamp)
    return cheapest_letters(history, told, Postage(history, prices, stamp))


def cheapest(history, deed, promise, prices, stamp, rent):
    """The days to wait ahead of a deed, what they and the letters behind it cost least, and such letters."""
    if not history.can(deed) or deed[0] == "wait":
        raise CannotBeDone(deed)
    told = exact_promise(promise)
    check_postage(history, prices)
    check_stamp(stamp)
    if not is_number(rent):
        raise BadRent(rent)
    found = []
    for days in days_to_try(history, told[2]):
        later = waited(history, days).then(deed)
        longer = list(prices) + [prices[-1]] * (later.now() - history.now())
        cost, letters = cheapest_letters(later, told, Postage(later, longer, stamp))
        found.append((days, cost + rent * days, letters))
    return min(found, key=lambda choice: choice[1])
