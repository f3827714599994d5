"""What is raised for what books, letters, stays, streets, desks and texts refuse."""

from oldaddress.errors import AddressError


class BadBook(AddressError):
    def __init__(self, book):
        super().__init__("no book of the land")
        self.book = book


class BadDay(AddressError):
    def __init__(self, day):
        super().__init__("no day that can be meant here")
        self.day = day


class BadPace(AddressError):
    def __init__(self, pace):
        super().__init__("no integer from 1 on as a pace")
        self.pace = pace


class BadRest(AddressError):
    def __init__(self, rest):
        super().__init__("no number as days of rest")
        self.rest = rest


class BadMoves(AddressError):
    def __init__(self, moves):
        super().__init__("no number as how many moves")
        self.moves = moves


class BadIdle(AddressError):
    def __init__(self, idle):
        super().__init__("no number as days that are idle")
        self.idle = idle


class BadLetters(AddressError):
    def __init__(self, index):
        super().__init__("no list of letters")
        self.index = index


class BadPostage(AddressError):
    def __init__(self, index):
        super().__init__("no list of one price for each moment")
        self.index = index


class BadStamp(AddressError):
    def __init__(self, stamp):
        super().__init__("no number as a stamp")
        self.stamp = stamp


class BadRent(AddressError):
    def __init__(self, rent):
        super().__init__("no number as a rent")
        self.rent = rent


class BadStays(AddressError):
    def __init__(self, index):
        super().__init__("no list of stays")
        self.index = index


class BadMany(AddressError):
    def __init__(self, many):
        super().__init__("no number that can be meant here")
        self.many = many


class BadHistory(AddressError):
    def __init__(self, history):
        super().__init__("no history")
        self.history = history


class BadOwners(AddressError):
    def __init__(self, owners):
        super().__init__("no dict from the addresses to houses")
        self.owners = owners


class BadHeirs(AddressError):
    def __init__(self, heirs):
        super().__init__("no dict from the houses to their heirs")
        self.heirs = heirs


class BadTurns(AddressError):
    def __init__(self, index):
        super().__init__("no turn, or one that cannot be done there")
        self.index = index


class NoHouse(AddressError):
    def __init__(self, house):
        super().__init__("no house of the street")
        self.house = house


class BadHouses(AddressError):
    def __init__(self, index):
        super().__init__("no list of unlike open houses")
        self.index = index


class NotARow(AddressError):
    def __init__(self):
        super().__init__("the houses do not stand in a row")


class BadSeen(AddressError):
    def __init__(self, index):
        super().__init__("no list of what was seen")
        self.index = index


class BadHistories(AddressError):
    def __init__(self, index):
        super().__init__("no list of two or more histories")
        self.index = index


class Crowded(AddressError):
    def __init__(self, address):
        super().__init__("an address that is not free in two lands")
        self.address = address


class BadFunction(AddressError):
    def __init__(self, thing):
        super().__init__("no function")
        self.thing = thing


class CanBeKept(AddressError):
    def __init__(self):
        super().__init__("there is a table")


class BadWriter(AddressError):
    def __init__(self, writer):
        super().__init__("no pair of functions as a writer")
        self.writer = writer


class BadSlate(AddressError):
    def __init__(self, thing):
        super().__init__("no slate")
        self.thing = thing


class BadTruth(AddressError):
    def __init__(self, thing):
        super().__init__("neither True nor False")
        self.thing = thing


class BadLooks(AddressError):
    def __init__(self, index):
        super().__init__("no list of looks")
        self.index = index


class BadOrder(AddressError):
    def __init__(self, order):
        super().__init__("no order")
        self.order = order


class IsWatched(AddressError):
    def __init__(self, promise):
        super().__init__("a promise that is watched or held already")
        self.promise = promise


class NotWatched(AddressError):
    def __init__(self, promise):
        super().__init__("a promise that is not watched or not held")
        self.promise = promise


class Broken(AddressError):
    def __init__(self, promise):
        super().__init__("a promise that does not hold now")
        self.promise = promise


class WouldBreak(AddressError):
    def __init__(self, promise):
        super().__init__("a held promise that would not hold behind it")
        self.promise = promise


class BadNumber(AddressError):
    def __init__(self, number):
        super().__init__("no number of orders that were given")
        self.number = number


class BadThing(AddressError):
    def __init__(self, thing):
        super().__init__("no land, history or desk")
        self.thing = thing


class BadText(AddressError):
    def __init__(self, line):
        super().__init__("no text of a land, a history or a desk")
        self.line = line
