"""What is raised for what lands, histories, holders, promises, states and plans refuse."""


class AddressError(ValueError):
    """Any refusal of the package."""


class BadAddresses(AddressError):
    def __init__(self, index):
        super().__init__("no list of two or more unlike names")
        self.index = index


class BadMost(AddressError):
    def __init__(self, most):
        super().__init__("no integer from 1 on as how many pieces may live")
        self.most = most


class BadLand(AddressError):
    def __init__(self, thing):
        super().__init__("no land")
        self.thing = thing


class BadDeeds(AddressError):
    def __init__(self, index):
        super().__init__("no deed of the land, or one that cannot be done there")
        self.index = index


class BadMoment(AddressError):
    def __init__(self, moment):
        super().__init__("no moment that can be meant here")
        self.moment = moment


class NoAddress(AddressError):
    def __init__(self, address):
        super().__init__("no address of the land")
        self.address = address


class BadPiece(AddressError):
    def __init__(self, piece):
        super().__init__("no integer from 1 on as a piece")
        self.piece = piece


class BadIndex(AddressError):
    def __init__(self, index):
        super().__init__("no index of what is there")
        self.index = index


class CannotBeDone(AddressError):
    def __init__(self, deed):
        super().__init__("no deed that can be done then")
        self.deed = deed


class BadNumbers(AddressError):
    def __init__(self, index):
        super().__init__("no list of numbers")
        self.index = index


class NotMade(AddressError):
    def __init__(self, piece):
        super().__init__("a piece that was never made")
        self.piece = piece


class BadTimes(AddressError):
    def __init__(self, times):
        super().__init__("no integer from 1 on as how many times")
        self.times = times


class BadLife(AddressError):
    def __init__(self, life):
        super().__init__("no life that can be meant here")
        self.life = life


class BadHolder(AddressError):
    def __init__(self, holder):
        super().__init__("no holder of the history")
        self.holder = holder


class BadPolicy(AddressError):
    def __init__(self, policy):
        super().__init__("no policy")
        self.policy = policy


class BadDue(AddressError):
    def __init__(self, due):
        super().__init__("no list of unlike addresses in the land's order")
        self.due = due


class BadPromise(AddressError):
    def __init__(self, promise):
        super().__init__("no promise")
        self.promise = promise


class BadWidth(AddressError):
    def __init__(self, width):
        super().__init__("no width")
        self.width = width


class BadTable(AddressError):
    def __init__(self, thing):
        super().__init__("no dict from addresses to unlike addresses")
        self.thing = thing


class BadView(AddressError):
    def __init__(self, view):
        super().__init__("no function as a view")
        self.view = view


class NoWord(AddressError):
    def __init__(self, thing):
        super().__init__("no word")
        self.thing = thing


class BadMarks(AddressError):
    def __init__(self, marks):
        super().__init__("no dict from the asked addresses to markings")
        self.marks = marks


class BadTurn(AddressError):
    def __init__(self, k):
        super().__init__("no integer from 1 on as a turn")
        self.k = k


class BadState(AddressError):
    def __init__(self, state):
        super().__init__("no state")
        self.state = state


class UnlikeLands(AddressError):
    def __init__(self):
        super().__init__("the lands are unlike")


class BadWord(AddressError):
    def __init__(self, word):
        super().__init__("no first part of deeds")
        self.word = word


class BadDiscipline(AddressError):
    def __init__(self, thing):
        super().__init__("no function as a discipline")
        self.thing = thing


class BadWithin(AddressError):
    def __init__(self, within):
        super().__init__("no number of days within which to serve")
        self.within = within


class BadAsks(AddressError):
    def __init__(self, index):
        super().__init__("no list of one or more unlike deeds to ask for")
        self.index = index


class BadWish(AddressError):
    def __init__(self, wish):
        super().__init__("no wish")
        self.wish = wish


class BadPrices(AddressError):
    def __init__(self, prices):
        super().__init__("no pair of numbers as prices")
        self.prices = prices
