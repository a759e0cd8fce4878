"""What the tests share: calls written out, answers taken apart, and the document's words gone through by brute force.

The brute force here is written from the document alone and shares nothing with the package.
"""

import fractions
import functools
import itertools
import random

from teamsatonce.house import answers

SET, ADD, COPY, EXCHANGE, LOOK = range(5)


def row(numbers):
    return [len(numbers)] + list(numbers)


def flat(acts):
    return [number for act in acts for number in act]


def props(*values):
    return [0] + row(values)


def team(*acts):
    return [1] + row(flat(acts))


def run(*order):
    return [2] + row(order)


def alike(order, other):
    return [3] + row(order) + row(other)


def normal(*order):
    return [4] + row(order)


def levels(*order):
    return [5] + row(order)


COUNTS = [6]
SURE = [7]
WINS = [8]


def hang(t, i, u, j):
    return [9, t, i, u, j]


def sets(t, i):
    return [10, t, i]


def swap(i, *order):
    return [11, i] + row(order)


def path(*rooms):
    return [12] + row(flat(rooms))


FORBIDDEN = [13]


def most(h):
    return [14, h]


def fits(*times):
    return [15] + row(times)


RATE = [16]
PRICES = [17]


def proves(n, d, *some_prices):
    return [18, n, d] + row(some_prices)


SIZES = [19]


def taken_apart(told):
    """The answers, a list each, out of the one list that the program gives back."""
    parts = []
    place = 0
    while place < len(told):
        behind = place + 1 + told[place]
        parts.append(told[place + 1:behind])
        place = behind
    if place != len(told):
        raise AssertionError("an answer is shorter than its count")
    return parts


def ask(*calls):
    """The answers to these calls, a list each."""
    parts = taken_apart(answers([number for call in calls for number in call]))
    if len(parts) != len(calls):
        raise AssertionError("not as many answers as calls")
    return parts


def last(*calls):
    return ask(*calls)[-1]


class Model:
    """A house as the document tells it: values, and for each team its acts as tuples of four numbers."""

    def __init__(self, values, teams):
        self.values = list(values)
        self.teams = [list(acts) for acts in teams]

    def calls(self):
        return [props(*self.values)] + [team(*acts) for acts in self.teams]

    def orders(self):
        """All whole orders, the least first."""
        numbers = [t for t, acts in enumerate(self.teams) for _ in acts]
        return sorted(grown(numbers))

    def end(self, order):
        values = list(self.values)
        found = [[] for _ in self.teams]
        for t, (kind, p, q, v) in self.performed(order):
            if kind == SET:
                values[p] = v
            elif kind == ADD:
                values[p] = (values[p] + v) % 10
            elif kind == COPY:
                values[q] = values[p]
            elif kind == EXCHANGE:
                values[p], values[q] = values[q], values[p]
            else:
                found[t].append(int(values[p] == v))
        return values, found

    def performed(self, order):
        rows = [iter(acts) for acts in self.teams]
        return [(t, next(rows[t])) for t in order]

    def told_end(self, order):
        values, found = self.end(order)
        return values + [number for finds in found for number in [len(finds)] + finds]

    def hang(self, one, other):
        """one and other: a team's number, and an act's within it."""
        if one[0] == other[0]:
            return True
        acts = self.teams[one[0]][one[1]], self.teams[other[0]][other[1]]
        (reads, writes), (other_reads, other_writes) = touched(acts[0]), touched(acts[1])
        return bool(writes & (other_reads | other_writes) or other_writes & (reads | writes))

    def places(self, order):
        seen = {}
        acts = []
        for t in order:
            acts.append((t, seen.get(t, 0)))
            seen[t] = seen.get(t, 0) + 1
        return acts

    def kept_pairs(self, order):
        """All pairs of acts that hang on one another, as they stand: alike orders are those that share these."""
        acts = self.places(order)
        return frozenset(pair for pair in itertools.combinations(acts, 2) if self.hang(*pair))

    def classes(self):
        """The whole orders, alike ones together, each class with its least order first."""
        found = {}
        for order in self.orders():
            found.setdefault(self.kept_pairs(order), []).append(order)
        return list(found.values())

    def levels(self, order):
        acts = self.places(order)
        level = {}
        for k, act in enumerate(acts):
            level[act] = 1 + max([level[b] for b in acts[:k] if self.hang(b, act)] + [0])
        return [level[act] for act in acts]

    def counts(self):
        ends = []
        for order in self.orders():
            end = self.end(order)
            if end not in ends:
                ends.append(end)
        return [0, len(self.orders()), len(self.classes()), len(ends)]

    def sure(self):
        orders = self.orders()
        other = [order for order in orders if self.end(order) != self.end(orders[0])]
        return [0, 0] + orders[0] + other[0] if other else [0, 1]

    def wins(self):
        won = [order for order in self.orders() if all(all(finds) for finds in self.end(order)[1])]
        return [0, len(won)] + (won[0] if won else [])


def grown(numbers):
    """All unlike rows of these numbers."""
    if not numbers:
        return [[]]
    rows = []
    for number in set(numbers):
        rest = list(numbers)
        rest.remove(number)
        rows.extend([number] + tail for tail in grown(rest))
    return rows


def touched(act):
    """The props that the act reads, and those that it writes."""
    kind, p, q, _ = act
    reads = {SET: set(), ADD: {p}, COPY: {p}, EXCHANGE: {p, q}, LOOK: {p}}[kind]
    writes = {SET: {p}, ADD: {p}, COPY: {q}, EXCHANGE: {p, q}, LOOK: set()}[kind]
    return reads, writes


def drawn_house(seed, most_acts):
    """A house drawn by a fixed seed, so that each run of the tests sees the same ones."""
    dice = random.Random(seed)
    size = dice.randint(1, 6)
    teams = [[] for _ in range(dice.randint(0, 4))]
    if teams:
        for _ in range(dice.randint(0, most_acts)):
            act = (dice.randint(0, 4), dice.randrange(size), dice.randrange(size), dice.choice([0, 1, 2, 9]))
            dice.choice(teams).append(act)
    return Model([dice.choice([0, 1, 2, 9]) for _ in range(size)], teams)


def small_houses():
    """Houses written out for what the document names, then drawn ones."""
    told = [
        Model([], []),
        Model([], [[]]),
        Model([], [[], [], [], []]),
        Model([5], [[(ADD, 0, 0, 1)]]),
        Model([0], [[(SET, 0, 0, 1)], [(SET, 0, 0, 2)]]),
        Model([0], [[(ADD, 0, 0, 1), (ADD, 0, 0, 2)], [(ADD, 0, 0, 3)]]),
        Model([0, 1], [[(COPY, 0, 1, 0)], [(COPY, 1, 0, 0)], [(LOOK, 1, 0, 0)]]),
        Model([1, 2], [[(EXCHANGE, 0, 0, 0)], [(COPY, 1, 1, 0)], [(LOOK, 0, 0, 1), (LOOK, 1, 0, 2)]]),
        Model([1, 2, 3], [[(EXCHANGE, 0, 1, 0)], [(EXCHANGE, 1, 2, 0)], [(LOOK, 2, 0, 1)], []]),
        Model([0, 0], [[(LOOK, 0, 0, 0), (LOOK, 0, 0, 0)], [(LOOK, 0, 0, 1)], [(SET, 0, 0, 1)]]),
        Model([0, 0, 0, 0], [[(SET, t, 0, 1)] for t in range(4)]),
    ]
    return told + [drawn_house(seed, 6) for seed in range(60)]


def large_houses():
    """Houses with 8 acts, the last ones drawn."""
    apart = Model([0, 1, 2, 3, 4, 5], [[(ADD, t, 0, 1), (LOOK, t, 0, t + 1)] for t in range(4)])
    chained = Model([9, 8, 7, 6, 5, 4], [[(COPY, t, t + 1, 0), (EXCHANGE, t + 2, t, 0)] for t in range(4)])
    one_team = Model([0], [[(ADD, 0, 0, 9)] * 8])
    return [apart, chained, one_team] + [drawn_house(seed, 8) for seed in range(1000, 1010)]


class PathModel:
    """A path as the document tells it: rooms, each a pair of the room's number and the stay."""

    def __init__(self, rooms):
        self.rooms = tuple(rooms)
        self.length = sum(stay for room, stay in self.rooms)

    def room(self, begin, time):
        """Where a team that began at begin is at this time; None before its first room and behind its last."""
        entered = begin
        for room, stay in self.rooms:
            if entered <= time < entered + stay:
                return room
            entered += stay
        return None

    def meet(self, begin, other):
        times = range(min(begin, other), max(begin, other) + self.length + 1)
        return any(self.room(begin, time) is not None and self.room(begin, time) == self.room(other, time)
                   for time in times)

    def forbidden(self):
        return [difference for difference in range(1, 20) if self.meet(0, difference)]

    def fits(self, times):
        return not any(self.meet(*pair) for pair in itertools.combinations(sorted(set(times)), 2))

    def most(self, h):
        """The told timetable, out of all timetables that fit. For small h."""
        for size in range(h + 1, -1, -1):
            for times in itertools.combinations(range(h + 1), size):
                if self.fits(times):
                    return list(times)

    def long_run(self):
        return long_run(self.length, tuple(self.forbidden()))


class LongRun:
    """The masks of a path of this length with these forbidden differences, and what comes of them."""

    def __init__(self, length, forbidden):
        self.length = length
        self.forbidden = forbidden
        self.row = self.masks_row()
        self.best = self.best_rate()
        self.prices = self.told_prices()

    def ways(self, mask):
        """The ways to go on: 1 if a team begins, else 0, and the new mask."""
        ago = [i + 1 for i in range(self.length - 1) if mask // 2 ** i % 2 == 1]
        may_begin = not any(difference in self.forbidden for difference in ago)
        return [(begins, (2 * mask + begins) % 2 ** (self.length - 1)) for begins in ((1, 0) if may_begin else (0,))]

    def masks_row(self):
        found = [0]
        for mask in found:  # what is added to it is walked too
            for begins, new in self.ways(mask):
                if new not in found:
                    found.append(new)
        return found

    def best_rate(self):
        """All ways that come back to where they began: a longer one than there are masks is made of shorter ones."""
        return max(fractions.Fraction(begun, times) for start in self.row for times, begun in self.returns(start))

    def returns(self, start):
        """For each number of times with which one comes back to the start: it, and how many teams begin at most."""
        found = []
        reached = {start: 0}
        for times in range(1, len(self.row) + 1):
            after = {}
            for mask, begun in reached.items():
                for begins, new in self.ways(mask):
                    after[new] = max(after.get(new, 0), begun + begins)
            reached = after
            if start in reached:
                found.append((times, reached[start]))
        return found

    def told_prices(self):
        n, d = self.best.numerator, self.best.denominator
        prices = {mask: 0 for mask in self.row}
        for _ in self.row:
            prices = {mask: max([0] + [(d if begins else 0) - n + prices[new] for begins, new in self.ways(mask)])
                      for mask in self.row}
        return [prices[mask] for mask in self.row]

    def prove(self, n, d, some_prices):
        if d < 1 or len(some_prices) != len(self.row):
            return False
        price = dict(zip(self.row, some_prices))
        return all((d if begins else 0) - n + price[new] <= price[mask]
                   for mask in self.row for begins, new in self.ways(mask))

    def most(self, h):
        """The told timetable for any h: what may begin hangs on the last beginnings alone."""
        @functools.lru_cache(maxsize=None)
        def best_from(time, recent):
            if time > h:
                return (0, ())
            kept = tuple(begun for begun in recent if time + 1 - begun < self.length)
            found = [best_from(time + 1, kept)]
            if not any(time - begun in self.forbidden for begun in recent):
                later = best_from(time + 1, kept + (time,) if self.length > 1 else ())
                found.append((later[0] - 1, (time,) + later[1]))
            return min(found)
        return list(best_from(0, ())[1])


@functools.lru_cache(maxsize=None)
def long_run(length, forbidden):
    return LongRun(length, forbidden)


def room_rows(length):
    """All rows of rooms, one for each time, that differ by more than the rooms' names."""
    rows = [[]]
    for _ in range(length):
        rows = [rooms + [room] for rooms in rows for room in range(len(set(rooms)) + 1)]
    return rows


def all_paths(length):
    """Each way in which times of a path may share rooms, told with the longest stays."""
    return [PathModel((room, len(list(stay))) for room, stay in itertools.groupby(rooms))
            for rooms in room_rows(length)]


@functools.lru_cache(maxsize=None)
def some_paths():
    """For each length and forbidden differences that there are, one path."""
    found = {}
    for length in range(1, 8):
        for model in all_paths(length):
            found.setdefault((length, tuple(model.forbidden())), model)
    return tuple(found.values())


ORDERS = (range(9), [(0, 3)])
NUMBER_RANGES = {9: [(0, 3), (0, 7), (0, 3), (0, 7)], 10: [(0, 3), (0, 7)], 11: [(0, 6)], 14: [(0, 30)],
                 18: [(0, 1000), (0, 1000)]}
ROW_SHAPES = {0: (range(7), [(0, 9)]), 1: (range(0, 71, 4), [(0, 4), (0, 5), (0, 5), (0, 9)]), 2: ORDERS, 3: ORDERS,
              4: ORDERS, 5: ORDERS, 11: ORDERS, 12: (range(2, 71, 2), [(0, 9), (1, 7)]),
              15: (range(41), [(0, 1000)]), 18: (range(65), [(-1000000, 1000000)])}


class Line:
    """A line as the document tells it. A call is its number, its whole numbers and its rows; all refusals that are
    due are gathered, and the one nearest to 0 is answered."""

    def __init__(self):
        self.house = Model([], [])
        self.path = None

    def answer(self, number, numbers, rows):
        if not self.in_range(number, numbers, rows):
            return [-1]
        due = self.refusals(number, numbers, rows)
        if due:
            return [max(due)]
        return [0] + self.told(number, numbers, rows)

    def in_range(self, number, numbers, rows):
        ranges = NUMBER_RANGES.get(number, [])
        if not all(low <= given <= high for given, (low, high) in zip(numbers, ranges)):
            return False
        for numbers_in_row in rows:
            lengths, cycle = ROW_SHAPES[number]
            if len(numbers_in_row) not in lengths:
                return False
            if not all(low <= given <= high for given, (low, high) in zip(numbers_in_row, itertools.cycle(cycle))):
                return False
        return True

    def acts_there(self):
        return [(t, i) for t, acts in enumerate(self.house.teams) for i in range(len(acts))]

    def refusals(self, number, numbers, rows):
        due = []
        acts = acts_of(rows[0]) if number == 1 else []
        if 13 <= number <= 18 and self.path is None:
            due.append(-2)
        if any(prop >= len(self.house.values) for act in acts for prop in (act[1:3] if act[0] in (2, 3) else act[1:2])):
            due.append(-3)
        if number in (9, 10) and not {tuple(numbers[:2]), tuple(numbers[-2:])} <= set(self.acts_there()):
            due.append(-3)
        if number == 1 and (len(self.house.teams) == 4 or len(self.acts_there()) + len(acts) > 8):
            due.append(-4)
        if number == 0 and self.house.teams:
            due.append(-5)
        numbers_whole = [t for t, i in self.acts_there()]
        if number in (2, 3, 4, 5, 11) and any(sorted(order) != numbers_whole for order in rows):
            due.append(-6)
        if number == 11 and not due:
            due.extend(self.swap_refusals(numbers[0], rows[0]))
        if number == 12 and sum(rows[0][1::2]) > 7:
            due.append(-9)
        return due

    def swap_refusals(self, i, order):
        if i + 1 not in range(len(order)):
            return [-7]
        places = self.house.places(order)
        return [-8] if self.house.hang(places[i], places[i + 1]) else []

    def told(self, number, numbers, rows):
        if number <= 1 or number == 12:
            return self.changed(number, rows[0])
        if number <= 9:
            return self.told_of_orders(number, numbers, rows)
        if number == 10:
            return told_sets(self.house.teams[numbers[0]][numbers[1]])
        if number == 11:
            order = list(rows[0])
            order[numbers[0]], order[numbers[0] + 1] = order[numbers[0] + 1], order[numbers[0]]
            return order
        if number == 19:
            rooms = len(self.path.rooms) if self.path else 0
            return [len(self.house.values), len(self.house.teams), len(self.acts_there()), rooms]
        return self.told_of_path(number, numbers, rows)

    def changed(self, number, given):
        if number == 0:
            self.house = Model(given, [])
            return []
        if number == 1:
            self.house = Model(self.house.values, self.house.teams + [acts_of(given)])
            return [len(self.house.teams) - 1]
        self.path = PathModel(zip(given[0::2], given[1::2]))
        return [self.path.length]

    def told_of_orders(self, number, numbers, rows):
        house = self.house
        if number == 2:
            return house.told_end(rows[0])
        if number == 3:
            return [int(house.kept_pairs(rows[0]) == house.kept_pairs(rows[1]))]
        if number == 4:
            return min(order for order in house.orders() if house.kept_pairs(order) == house.kept_pairs(rows[0]))
        if number == 5:
            return house.levels(rows[0])
        if number == 9:
            return [int(house.hang(tuple(numbers[:2]), tuple(numbers[2:])))]
        return {6: house.counts, 7: house.sure, 8: house.wins}[number]()[1:]

    def told_of_path(self, number, numbers, rows):
        run_long = self.path.long_run()
        if number == 13:
            return self.path.forbidden()
        if number == 14:
            times = run_long.most(numbers[0])
            return [len(times)] + times
        if number == 15:
            return [int(self.path.fits(rows[0]))]
        if number == 16:
            return [run_long.best.numerator, run_long.best.denominator, len(run_long.row)]
        if number == 17:
            return run_long.prices
        return [int(run_long.prove(numbers[0], numbers[1], rows[0]))]


def acts_of(numbers):
    return [tuple(numbers[k:k + 4]) for k in range(0, len(numbers), 4)]


def told_sets(act):
    """How many props the act reads, these, and those that it writes: as the document tells it, kind by kind."""
    kind, p, q, _ = act
    return {SET: [0, p], ADD: [1, p, p], COPY: [1, p, q], EXCHANGE: [2, p, q, p, q], LOOK: [1, p]}[kind]
