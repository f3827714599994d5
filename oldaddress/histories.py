"""Histories: deeds done one behind another, and what lies where at each moment."""

from oldaddress.checks import first_wrong, is_from_one, is_integer, is_list, is_number, is_word_of
from oldaddress.deedforms import deed_can_be_done, deeds_of
from oldaddress.errors import (
    BadDeeds,
    BadIndex,
    BadMoment,
    BadNumbers,
    BadPiece,
    CannotBeDone,
    NoAddress,
)
from oldaddress.lands import check_land
from oldaddress.rows import part_of, place_in, size_of
from oldaddress.scenes import deed_done_there, empty_scene, scene_behind


class History:
    """Deeds of a land, from the moment at which all its addresses are free."""

    def __init__(self, land, deeds):
        check_land(land)
        if not is_list(deeds):
            raise BadDeeds(0)
        told = []
        scenes = [empty_scene(land.addresses())]
        for index, thing in enumerate(deeds):
            deed = deed_done_there(scenes[-1], land.most(), thing)
            if deed is None:
                raise BadDeeds(index)
            told.append(deed)
            scenes.append(scene_behind(scenes[-1], deed))
        self._land = land
        self._told = tuple(told)
        self._scenes = tuple(scenes)

    def __eq__(self, other):
        return isinstance(other, History) and self._land == other._land and self._told == other._told

    def land(self):
        return self._land

    def deeds(self):
        return list(self._told)

    def now(self):
        return len(self._told)

    def moment_told(self, moment):
        """The moment that is meant, now by None, BadMoment if none is."""
        if moment is None:
            return len(self._told)
        return self.exact_moment(moment)

    def exact_moment(self, moment):
        if not is_integer(moment) or not 0 <= moment <= len(self._told):
            raise BadMoment(moment)
        return moment

    def address_told(self, address):
        if not is_word_of(self._scenes[0].lying, address):
            raise NoAddress(address)
        return address

    def scene(self, moment):
        """What lies where at a moment of the history."""
        return self._scenes[moment]

    def rows(self, moment=None):
        scene = self._scenes[self.moment_told(moment)]
        return {address: list(row) for address, row in scene.lying.items()}

    def row(self, address, moment=None):
        self.address_told(address)
        return list(self._scenes[self.moment_told(moment)].lying[address])

    def many(self, moment=None):
        return sum(list(self._scenes[self.moment_told(moment)].sizes().values()))

    def made(self, moment=None):
        return self._scenes[self.moment_told(moment)].born

    def where(self, piece, moment=None):
        spot = self.index_of(piece, moment)
        return None if spot is None else spot[0]

    def piece_at(self, address, index, moment=None):
        self.address_told(address)
        row = self._scenes[self.moment_told(moment)].lying[address]
        if not is_number(index) or index >= size_of(row):
            raise BadIndex(index)
        return part_of(row, index, index + 1)[0][0]

    def index_of(self, piece, moment=None):
        if not is_from_one(piece):
            raise BadPiece(piece)
        for address, row in self._scenes[self.moment_told(moment)].lying.items():
            place = place_in(row, piece)
            if place is not None:
                return (address, place)
        return None

    def can(self, deed):
        return deed_done_there(self._scenes[-1], self._land.most(), deed) is not None

    def then(self, deed):
        told = deed_done_there(self._scenes[-1], self._land.most(), deed)
        if told is None:
            raise CannotBeDone(deed)
        return self._of((*self._told, told), (*self._scenes, scene_behind(self._scenes[-1], told)))

    def ahead(self, moment):
        first = self.exact_moment(moment)
        return self._of(self._told[:first], self._scenes[: first + 1])

    def _of(self, told, scenes):
        # What was done already is not gone through again.
        other = History(self._land, [])
        other._told = told
        other._scenes = scenes
        return other

    def day(self, moment=None):
        return self._scenes[self.moment_told(moment)].days

    def last_day(self, moment=None):
        told = self.moment_told(moment)
        day = self._scenes[told].days
        if told < len(self._told) and self._told[told][0] == "wait":
            return day + self._told[told][1] - 1
        return day

    def age(self, learned, moment=None):
        since = self.exact_moment(learned)
        told = self.moment_told(moment)
        if told < since:
            raise BadMoment(moment)
        if told == since:
            return 0
        return self._scenes[told].days - self.last_day(since)


def told_numbers(numbers):
    """The unlike numbers of a list, as it has them, BadNumbers if it is no list of numbers."""
    wrong = first_wrong(numbers, is_number)
    if wrong is not None:
        raise BadNumbers(wrong)
    return list({number: True for number in numbers})


def deeds_now(history, numbers):
    """All deeds but waits that can be done now, their n and k among the numbers."""
    told = told_numbers(numbers)
    sizes = history.scene(history.now()).sizes()
    most = history.land().most()
    return [deed for deed in deeds_of(list(sizes), told) if deed_can_be_done(sizes, most, deed)]
