"""Plans: how to get what one wishes by turns, without breaking a promise."""

from heapq import heappop, heappush

from oldaddress.checks import is_from_one, is_list, is_number, is_word_of
from oldaddress.entries import exact_promise
from oldaddress.errors import BadPrices, BadWish
from oldaddress.rows import row_of
from oldaddress.spots import parted, spots_of
from oldaddress.trails import FOUND, Trail, first_way
from oldaddress.turns import DAY, Turns, pieces_taken


def row_told(thing):
    """The row of stretches that a thing tells, None if it tells none."""
    if not is_list(thing) or not all([is_list(pair) and len(pair) == 2 for pair in thing]):
        return None
    for first, last in thing:
        if not is_from_one(first) or not is_from_one(last) or first > last:
            return None
    row = tuple([(first, last) for first, last in thing])
    return row if row_of(row) == row else None


def wish_told(history, thing):
    """The dict from addresses to rows that a wish tells, None if it tells none."""
    lying = history.scene(history.now()).lying
    if not isinstance(thing, dict) or not thing or not all([is_word_of(lying, key) for key in thing]):
        return None
    wish = {address: row_told(row) for address, row in thing.items()}
    if None in list(wish.values()):
        return None
    stretches = sorted([stretch for row in list(wish.values()) for stretch in row])
    if any([ahead[1] >= behind[0] for ahead, behind in zip(stretches, stretches[1:])]):
        return None
    if any([place is None for first, last, place in parted(stretches, spots_of(lying))]):
        return None
    return wish


def told_promise(promise):
    """The promise that is meant, None without one."""
    return None if promise is None else exact_promise(promise)


class Planning:
    """A wish and a promise, and the turns from now on."""

    def __init__(self, history, wish, promise):
        told = wish_told(history, wish)
        if told is None:
            raise BadWish(wish)
        self._wish = told
        self.spots = Turns(history, told_promise(promise))

    def is_so(self, spot):
        """Whether the wish is so at a spot."""
        lying = self.spots.lying(spot)
        return all([lying[address] == row for address, row in self._wish.items()])

    def spot_behind(self, spot, turn):
        """The spot behind a turn, FOUND if the wish is so there, None if the promise is not kept."""
        behind = self.spots.behind(spot, turn)
        if not self.spots.is_kept(behind):
            return None
        return FOUND if self.is_so(behind) else behind

    def trail_and_plan(self):
        """The trail of all spots that are come to, and the first shortest plan, None if there is none."""
        trail = Trail(self.spots.start)
        if self.is_so(self.spots.start):
            return trail, []
        plan = first_way(
            trail,
            lambda spot: self.spots.turns(spot),
            lambda spot, turn: self.spot_behind(spot, turn),
        )
        return trail, plan

    def ways_behind(self, ways, met):
        """The dict from spots that are not met yet to how many turns lead there by those of such a dict."""
        behind = {}
        for spot, many in ways.items():
            for turn in self.spots.turns(spot):
                later = self.spots.behind(spot, turn)
                if later not in met and self.spots.is_kept(later):
                    behind[later] = behind.get(later, 0) + many
        return behind

    def cost(self, spot, turn, prices):
        if turn == DAY:
            return prices[1]
        return prices[0] * pieces_taken(self.spots.sizes(spot), turn)

    def cheapest(self, prices):
        """The pair of what the cheapest plan costs and of the plan, None if there is none."""
        best = {self.spots.start: (0, 0, ())}
        queue = [(0, 0, (), self.spots.start)]
        while queue:
            cost, many, plan, spot = heappop(queue)
            if (cost, many, plan) != best[spot]:
                continue
            if self.is_so(spot):
                return (cost, list(plan))
            for turn in self.spots.turns(spot):
                behind = self.spots.behind(spot, turn)
                price = cost + self.cost(spot, turn, prices)
                if not self.spots.is_kept(behind) or (behind in best and best[behind][:2] < (price, many + 1)):
                    continue
                worth = (price, many + 1, (*plan, turn))
                if behind not in best or worth < best[behind]:
                    best[behind] = worth
                    heappush(queue, (*worth, behind))
        return None

    def is_closed(self, thing):
        """Whether any object is a lot of lists of turns beyond whose spots none leads, the wish never being so."""
        if not is_list(thing) or not all([is_list(part) for part in thing]):
            return False
        spots = [self.spots.spot_told(part) for part in thing]
        if None in spots or not any([len(part) == 0 for part in thing]):
            return False
        lot = {spot: True for spot in spots}
        if any([self.is_so(spot) for spot in lot]):
            return False
        return all([self.leads_to(lot, spot, turn) for spot in lot for turn in self.spots.turns(spot)])

    def leads_to(self, lot, spot, turn):
        """Whether a turn leads to a spot of a lot, or breaks the promise."""
        behind = self.spots.behind(spot, turn)
        return behind in lot or not self.spots.is_kept(behind)


def is_plan(history, wish, promise, thing):
    """Whether any object is a plan."""
    planning = Planning(history, wish, promise)
    spot = planning.spots.spot_told(thing) if is_list(thing) else None
    return spot is not None and planning.is_so(spot)


def shortest_plan(history, wish, promise):
    """The first of the plans with fewest turns, None if there is none."""
    trail, plan = Planning(history, wish, promise).trail_and_plan()
    return plan


def how_many(history, wish, promise):
    """How many plans have fewest turns, 0 if there is none."""
    planning = Planning(history, wish, promise)
    ways = {planning.spots.start: 1}
    met = {planning.spots.start: True}
    while ways:
        many = sum([ways[spot] for spot in ways if planning.is_so(spot)])
        if many > 0:
            return many
        ways = planning.ways_behind(ways, met)
        met.update({spot: True for spot in ways})
    return 0


def closed_lot(history, wish, promise):
    """The first shortest turns to each spot, None if there is a plan."""
    trail, plan = Planning(history, wish, promise).trail_and_plan()
    return trail.ways() if plan is None else None


def is_closed_lot(history, wish, promise, thing):
    """Whether any object is a lot of lists of turns that shows that there is no plan."""
    return Planning(history, wish, promise).is_closed(thing)


def cheapest_plan(history, wish, promise, prices):
    """What the cheapest plan costs, and the first one of these with fewest turns, None if there is none."""
    planning = Planning(history, wish, promise)
    if not is_list(prices) or len(prices) != 2 or not all([is_number(price) for price in prices]):
        raise BadPrices(prices)
    return planning.cheapest(prices)


def reached(history, promise):
    """All rows that are come to by turns behind each of which the promise is kept."""
    spots = Turns(history, told_promise(promise))
    trail = Trail(spots.start)

    def behind(spot, turn):
        later = spots.behind(spot, turn)
        return later if spots.is_kept(later) else None

    first_way(trail, lambda spot: spots.turns(spot), behind)
    first_spots = {}
    for spot in trail.things():
        first_spots.setdefault(spot[0], spot)
    return [
        {address: list(row) for address, row in spots.lying(spot).items()} for spot in list(first_spots.values())
    ]
