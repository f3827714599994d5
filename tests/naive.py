"""The document's words taken piece by piece, to compare the program with, and what many tests share."""

import itertools
import random

from oldaddress.desks import Desk
from oldaddress.errors import BadLand
from oldaddress.histories import History
from oldaddress.lands import Land
from oldaddress.streets import Street

POLICIES = ("all", "first", "most")


def free(rows, address):
    return not rows[address]


def can(rows, most, deed):
    word, rest = deed[0], deed[1:]
    living = sum(len(row) for row in rows.values())
    if word == "make":
        return free(rows, rest[0]) and living + rest[1] <= most
    if word == "grow":
        return not free(rows, rest[0]) and living + rest[1] <= most
    if word == "move":
        return not free(rows, rest[0]) and free(rows, rest[1])
    if word in ("swap", "pour"):
        return not free(rows, rest[0]) and not free(rows, rest[1])
    if word == "cut":
        return free(rows, rest[2]) and len(rows[rest[0]]) > rest[1]
    if word == "split":
        return free(rows, rest[2]) and free(rows, rest[3]) and len(rows[rest[0]]) > rest[1]
    if word == "drop":
        return len(rows[rest[0]]) >= rest[1] + rest[2]
    if word == "end":
        return not free(rows, rest[0])
    return True


def done(rows, made, deed):
    rows = {address: list(row) for address, row in rows.items()}
    word, rest = deed[0], deed[1:]
    if word in ("make", "grow"):
        rows[rest[0]] += range(made + 1, made + rest[1] + 1)
        made += rest[1]
    elif word in ("move", "swap"):
        rows[rest[0]], rows[rest[1]] = rows[rest[1]], rows[rest[0]]
    elif word == "cut":
        rows[rest[0]], rows[rest[2]] = rows[rest[0]][:rest[1]], rows[rest[0]][rest[1]:]
    elif word == "split":
        row = rows[rest[0]]
        rows[rest[0]], rows[rest[2]], rows[rest[3]] = [], row[:rest[1]], row[rest[1]:]
    elif word == "pour":
        rows[rest[1]] += rows[rest[0]]
        rows[rest[0]] = []
    elif word == "drop":
        del rows[rest[0]][rest[1]:rest[1] + rest[2]]
    elif word == "end":
        rows[rest[0]] = []
    return rows, made


def all_deeds(addresses, numbers):
    """All deeds but waits, in the order of [3.3], then of addresses, then of numbers."""
    positive = [n for n in numbers if n >= 1]
    ones = [(a,) for a in addresses]
    pairs = list(itertools.permutations(addresses, 2))
    found = [("make", *a, n) for a in ones for n in positive]
    found += [("grow", *a, n) for a in ones for n in positive]
    found += [("move", *p) for p in pairs]
    found += [("swap", *p) for p in pairs]
    found += [("cut", a, k, b) for a, b in pairs for k in positive]
    found += [("split", a, k, b, c) for a, b, c in itertools.permutations(addresses, 3) for k in positive]
    found += [("pour", *p) for p in pairs]
    found += [("drop", *a, k, n) for a in ones for k in numbers for n in positive]
    found += [("end", *a) for a in ones]
    return found


class Naive:
    """A history piece by piece."""

    def __init__(self, addresses, most, deeds):
        self.addresses, self.most, self.deeds = list(addresses), most, list(deeds)
        self.rows = [{address: [] for address in addresses}]
        self.made, self.days = [0], [0]
        for deed in deeds:
            assert can(self.rows[-1], most, deed)
            rows, made = done(self.rows[-1], self.made[-1], deed)
            self.rows.append(rows)
            self.made.append(made)
            self.days.append(self.days[-1] + (deed[1] if deed[0] == "wait" else 0))
        self.now = len(self.deeds)

    def where(self, piece, moment):
        for address, row in self.rows[moment].items():
            if piece in row:
                return address
        return None

    def age(self, learned, moment):
        """As little as it can be: they may have learned it on the last day that the moment lasted."""
        if learned == moment:
            return 0
        last = self.days[learned]
        if self.deeds[learned][0] == "wait":
            last += self.deeds[learned][1] - 1
        return self.days[moment] - last

    def holders(self, life, moment):
        return [
            (address, learned)
            for address in self.addresses
            for learned in range(moment + 1)
            if self.rows[learned][address] and (life is None or self.age(learned, moment) <= life)
        ]

    def meant(self, holder):
        return self.rows[holder[1]][holder[0]]

    def living(self, holder, moment):
        return [piece for piece in self.meant(holder) if self.where(piece, moment) is not None]

    def due(self, holder, policy, moment):
        places = [self.where(piece, moment) for piece in self.living(holder, moment)]
        if not places:
            return ()
        if policy == "first":
            return (places[0],)
        if policy == "all":
            return tuple(a for a in self.addresses if a in places)
        return (max(self.addresses, key=lambda a: (places.count(a), -self.addresses.index(a))),)

    def entries(self):
        """All entries there can be, shorter ones ahead."""
        found = []
        for many in range(len(self.addresses) + 1):
            found += itertools.combinations(self.addresses, many)
        return found

    def serves(self, width, entry, due):
        if width is None:
            return entry == due
        if not due:
            return not entry
        return len(entry) <= width and set(due) <= set(entry)

    def table_for(self, width, comers):
        """The shortest entries for pairs (holder, due), looked for among all entries."""
        table = {}
        for address in self.addresses:
            dues = [due for holder, due in comers if holder[0] == address]
            if dues:
                good = [e for e in self.entries() if all(self.serves(width, e, due) for due in dues)]
                if not good:
                    return None
                table[address] = good[0]
        return table

    def comers(self, policy, life, moment):
        return [(holder, self.due(holder, policy, moment)) for holder in self.holders(life, moment)]

    def table(self, promise, moment):
        policy, width, life = promise
        return self.table_for(width, self.comers(policy, life, moment))

    def keeps(self, promise):
        """Whether a promise is kept now."""
        return self.table(promise, self.now) is not None

    def then(self, *deeds):
        return Naive(self.addresses, self.most, self.deeds + list(deeds))

    def can(self, deed):
        return can(self.rows[-1], self.most, deed)

    def waited(self, days):
        return self.then(("wait", days)) if days else self

    def small_steps(self):
        """All deeds of small lands that can be done now, and behind them one day of waiting."""
        deeds = all_deeds(self.addresses, range(self.most + 1))
        return [deed for deed in deeds if self.can(deed)] + [("wait", 1)]

    def places(self, holder, moment):
        spots = {}
        for address, row in self.rows[moment].items():
            spots.update({piece: (address, index) for index, piece in enumerate(row)})
        found = []
        for address, index in [spots[piece] for piece in self.meant(holder) if piece in spots]:
            if found and found[-1][0] == address and found[-1][2] + 1 == index:
                found[-1] = (address, found[-1][1], index)
            else:
                found.append((address, index, index))
        return found

    def state(self, life):
        known = []
        for address in self.addresses:
            ages = {}
            for holder in self.holders(life, self.now):
                if holder[0] == address:
                    age = None if life is None else self.age(holder[1], self.now)
                    ages.setdefault(tuple(self.places(holder, self.now)), []).append(age)
            known.append(tuple((row, None if life is None else min(ages[row])) for row in sorted(ages)))
        return (tuple(len(self.rows[-1][address]) for address in self.addresses), tuple(known))

    def told(self):
        """The same history of the program."""
        return History(Land(self.addresses, self.most), self.deeds)


def stretches(pieces):
    """Pieces, or moments, in their order as stretches, as long as can be."""
    found = []
    for piece in pieces:
        if found and found[-1][1] + 1 == piece:
            found[-1] = (found[-1][0], piece)
        else:
            found.append((piece, piece))
    return found


def random_deeds(rng, addresses, most, many, waits=3):
    """Deeds that can be done one behind another, none of them much likelier than others."""
    naive = Naive(addresses, most, [])
    rows, made, deeds = naive.rows[0], 0, []
    for _ in range(many):
        sorts = {}
        for deed in all_deeds(addresses, range(most + 1)):
            if can(rows, most, deed):
                sorts.setdefault(deed[0], []).append(deed)
        sorts["wait"] = [("wait", rng.randint(1, waits))]
        # Without some weight on making and parting, most histories end with nothing to see.
        words = list(sorts) + [word for word in ("make", "cut", "split", "grow") if word in sorts]
        deed = rng.choice(sorts[rng.choice(words)])
        rows, made = done(rows, made, deed)
        deeds.append(deed)
    return deeds


def random_histories(seed, count, most_deeds=9):
    """Pairs of a naive history and the same history of the program."""
    rng = random.Random(seed)
    for _ in range(count):
        addresses = ["d", "a", "c", "b"][:rng.choice((2, 3, 3, 4))]
        most = rng.randint(1, 7)
        deeds = random_deeds(rng, addresses, most, rng.randint(0, most_deeds))
        yield Naive(addresses, most, deeds), History(Land(addresses, most), deeds)


def all_histories(addresses, most, many):
    """All histories of so many deeds or less, waits of one day among them, as random_histories has them."""
    lots = [[]]
    for _ in range(many + 1):
        longer = []
        for deeds in lots:
            naive = Naive(addresses, most, deeds)
            yield naive, History(Land(addresses, most), deeds)
            for deed in all_deeds(addresses, range(most + 1)) + [("wait", 1)]:
                if can(naive.rows[-1], most, deed):
                    longer.append(deeds + [deed])
        lots = longer


def met_states(addresses, most, life):
    """The dict from all states of a small land to the first shortest naive histories that come to them."""
    met = {}
    queue = [Naive(addresses, most, [])]
    met[queue[0].state(life)] = queue[0]
    for naive in queue:
        for deed in naive.small_steps():
            later = naive.then(deed)
            if later.state(life) not in met:
                met[later.state(life)] = later
                queue.append(later)
    return met


def ways_of(naive, steps, most):
    """All lists of steps of at most so many from a naive history on, shorter ones ahead, with what is behind."""
    level = [([], naive)]
    for _ in range(most + 1):
        yield from level
        level = [(way + [deed], later.then(deed)) for way, later in level for deed in steps(later)]


def no_functions():
    """Objects of all kinds, none of which is a function."""
    return [thing for thing in junk() if not callable(thing)]


def promises():
    return [
        (policy, width, life)
        for policy in POLICIES
        for width in (None, 1, 2, 3)
        for life in (None, 0, 1, 2, 4)
    ]


def junk():
    """Objects of all kinds, none of which is what any question asks for but by chance."""
    land = Land(["a", "b"], 2)
    history = History(land, [("make", "a", 1)])
    deep = []
    for _ in range(2000):
        deep = [deep]
    street = Street(history, {"a": "n", "b": "n"}, {"n": None}, [])
    return [
        None, True, False, 0, 1, 2, -1, 10 ** 30, -(10 ** 5000), "", "a", "all", "wait", "A", "a" * 9, "\u00e4",
        [], (), [[]], [()], [None], [1], (True,), ("a",), ["a", "a"], ["a", 1], ("a", True), ("a", "1"),
        ("wait",), ("wait", 0), ("wait", True), ("wait", "1"), ["wait", 1, 1], ("make", "a"), ("make", ["a"], 1),
        ([], 1, 2), ({}, None, None), ("all", 0, None), ("all", True, None), ("all", None, -1), ("all", 1),
        ("first", 1, True), ("most", "1", 1), ("last", None, None), (None, None, None), ("all", None, None, None),
        {}, {"a": 1}, {"a": ("a",)}, {1: 2}, {("a", 1): []}, {None: None}, [{}], ({},), (land, 1), (history, 0),
        len, lambda thing: True, land, history, street, Desk(land), BadLand(1), Land, deep, tuple(deep),
    ]
