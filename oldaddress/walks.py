"""Walkers: who goes from entry to entry while days go by, and who of them is lost."""

from oldaddress.checks import is_from_one, is_number
from oldaddress.lazybooks import book_at
from oldaddress.policies import check_life, exact_holder, holders_within, meant_row
from oldaddress.refusals import BadDay, BadPace
from oldaddress.spots import parted, spots_of


def check_day(day):
    if not is_number(day):
        raise BadDay(day)


def check_pace(pace):
    if not is_from_one(pace):
        raise BadPace(pace)


def days_of(history):
    """The days of all moments."""
    return [history.day(moment) for moment in range(history.now() + 1)]


def moment_shown(days, day):
    """The last moment, of those with these days, that is not behind a day."""
    return len([told for told in days if told <= day]) - 1


def evening(history, day):
    """The last moment whose day is at most this one."""
    check_day(day)
    return moment_shown(days_of(history), day)


class Evenings:
    """What the house shows in the evening of each day, and who walks where by it."""

    def __init__(self, history, pace):
        self._history = history
        self._pace = pace
        self._days = days_of(history)
        self._books = [book_at(history, moment) for moment in range(history.now() + 1)]

    def stands(self, address, day):
        """The pairs (day, address) where a walker stands, the last one being the end."""
        found = [(day, address)]
        while True:
            today, here = found[-1]
            entry = self._books[moment_shown(self._days, today)].get(here, ())
            if not entry:
                return found
            found.append((today + self._pace, entry[0]))

    def days_alike(self, stands):
        """For how many days, from this one on, the same walk is shown the same, None without end."""
        gaps = [later - day for day, here in stands for later in self._days if later > day]
        return min(gaps, default=None)

    def is_lost(self, holder, stands):
        """Whether a holder who stands there, one behind another, comes to what they do not mean."""
        day, end = stands[-1]
        moment = moment_shown(self._days, day)
        parts = parted(meant_row(self._history, holder), spots_of(self._history.scene(moment).lying))
        places = [place for first, last, place in parts if place is not None]
        if places:
            return end not in places
        return self._books[moment].get(end) != ()

    def lost_stretches(self, holder, life):
        """The stretches of all days on which a holder of a life who sets out is lost."""
        day = self._history.last_day(holder[1])
        last = None if life is None else day + life
        found = []
        while last is None or day <= last:
            stands = self.stands(holder[0], day)
            many = self.days_alike(stands)
            end = last if many is None or (last is not None and day + many > last) else day + many - 1
            if self.is_lost(holder, stands):
                begin = found.pop()[0] if found and found[-1][1] == day - 1 else day
                found.append((begin, end))
            if many is None:
                return found
            day += many
        return found


def walk(history, address, day, pace):
    """The pairs (day, address) where a walker stands who sets out on a day, the last one being the end."""
    history.address_told(address)
    check_day(day)
    check_pace(pace)
    return Evenings(history, pace).stands(address, day)


def lost_days(history, holder, pace, life):
    """The stretches of the days on which a holder who sets out is lost, the last one None without end."""
    told = exact_holder(history, holder)
    check_pace(pace)
    check_life(life)
    return Evenings(history, pace).lost_stretches(told, life)


def first_lost(history, pace, life):
    """The first pair of a holder and a day on which they are lost if they set out, None if there is none."""
    check_pace(pace)
    check_life(life)
    evenings = Evenings(history, pace)
    for holder in holders_within(history, None, history.now()):
        stretches = evenings.lost_stretches(holder, life)
        if stretches:
            return (holder, stretches[0][0])
    return None
