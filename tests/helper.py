"""What the tests share: calls written out, answers taken apart, and the document's words gone through by brute force.

The brute force here is written from the document alone and shares nothing with the package.
"""

import itertools
import random

from teamsatonce.house import answers

SET, ADD, COPY, EXCHANGE, LOOK = range(5)


def row(numbers):
    return [len(numbers)] + list(numbers)


def flat(acts):
    return [number for act in acts for number in act]


def props(*values):
    return [0] + row(values)


def team(*acts):
    return [1] + row(flat(acts))


def run(*order):
    return [2] + row(order)


def alike(order, other):
    return [3] + row(order) + row(other)


def normal(*order):
    return [4] + row(order)


def levels(*order):
    return [5] + row(order)


COUNTS = [6]
SURE = [7]
WINS = [8]


def hang(t, i, u, j):
    return [9, t, i, u, j]


def taken_apart(told):
    """The answers, a list each, out of the one list that the program gives back."""
    parts = []
    place = 0
    while place < len(told):
        behind = place + 1 + told[place]
        parts.append(told[place + 1:behind])
        place = behind
    if place != len(told):
        raise AssertionError("an answer is shorter than its count")
    return parts


def ask(*calls):
    """The answers to these calls, a list each."""
    parts = taken_apart(answers([number for call in calls for number in call]))
    if len(parts) != len(calls):
        raise AssertionError("not as many answers as calls")
    return parts


def last(*calls):
    return ask(*calls)[-1]


class Model:
    """A house as the document tells it: values, and for each team its acts as tuples of four numbers."""

    def __init__(self, values, teams):
        self.values = list(values)
        self.teams = [list(acts) for acts in teams]

    def calls(self):
        return [props(*self.values)] + [team(*acts) for acts in self.teams]

    def orders(self):
        """All whole orders, the least first."""
        numbers = [t for t, acts in enumerate(self.teams) for _ in acts]
        return sorted(grown(numbers))

    def end(self, order):
        values = list(self.values)
        found = [[] for _ in self.teams]
        for t, (kind, p, q, v) in self.performed(order):
            if kind == SET:
                values[p] = v
            elif kind == ADD:
                values[p] = (values[p] + v) % 10
            elif kind == COPY:
                values[q] = values[p]
            elif kind == EXCHANGE:
                values[p], values[q] = values[q], values[p]
            else:
                found[t].append(int(values[p] == v))
        return values, found

    def performed(self, order):
        rows = [iter(acts) for acts in self.teams]
        return [(t, next(rows[t])) for t in order]

    def told_end(self, order):
        values, found = self.end(order)
        return values + [number for finds in found for number in [len(finds)] + finds]

    def hang(self, one, other):
        """one and other: a team's number, and an act's within it."""
        if one[0] == other[0]:
            return True
        acts = self.teams[one[0]][one[1]], self.teams[other[0]][other[1]]
        (reads, writes), (other_reads, other_writes) = touched(acts[0]), touched(acts[1])
        return bool(writes & (other_reads | other_writes) or other_writes & (reads | writes))

    def places(self, order):
        seen = {}
        acts = []
        for t in order:
            acts.append((t, seen.get(t, 0)))
            seen[t] = seen.get(t, 0) + 1
        return acts

    def kept_pairs(self, order):
        """All pairs of acts that hang on one another, as they stand: alike orders are those that share these."""
        acts = self.places(order)
        return frozenset(pair for pair in itertools.combinations(acts, 2) if self.hang(*pair))

    def classes(self):
        """The whole orders, alike ones together, each class with its least order first."""
        found = {}
        for order in self.orders():
            found.setdefault(self.kept_pairs(order), []).append(order)
        return list(found.values())

    def levels(self, order):
        acts = self.places(order)
        level = {}
        for k, act in enumerate(acts):
            level[act] = 1 + max([level[b] for b in acts[:k] if self.hang(b, act)] + [0])
        return [level[act] for act in acts]

    def counts(self):
        ends = []
        for order in self.orders():
            end = self.end(order)
            if end not in ends:
                ends.append(end)
        return [0, len(self.orders()), len(self.classes()), len(ends)]

    def sure(self):
        orders = self.orders()
        other = [order for order in orders if self.end(order) != self.end(orders[0])]
        return [0, 0] + orders[0] + other[0] if other else [0, 1]

    def wins(self):
        won = [order for order in self.orders() if all(all(finds) for finds in self.end(order)[1])]
        return [0, len(won)] + (won[0] if won else [])


def grown(numbers):
    """All unlike rows of these numbers."""
    if not numbers:
        return [[]]
    rows = []
    for number in set(numbers):
        rest = list(numbers)
        rest.remove(number)
        rows.extend([number] + tail for tail in grown(rest))
    return rows


def touched(act):
    """The props that the act reads, and those that it writes."""
    kind, p, q, _ = act
    reads = {SET: set(), ADD: {p}, COPY: {p}, EXCHANGE: {p, q}, LOOK: {p}}[kind]
    writes = {SET: {p}, ADD: {p}, COPY: {q}, EXCHANGE: {p, q}, LOOK: set()}[kind]
    return reads, writes


def drawn_house(seed, most_acts):
    """A house drawn by a fixed seed, so that each run of the tests sees the same ones."""
    dice = random.Random(seed)
    size = dice.randint(1, 6)
    teams = [[] for _ in range(dice.randint(0, 4))]
    if teams:
        for _ in range(dice.randint(0, most_acts)):
            act = (dice.randint(0, 4), dice.randrange(size), dice.randrange(size), dice.choice([0, 1, 2, 9]))
            dice.choice(teams).append(act)
    return Model([dice.choice([0, 1, 2, 9]) for _ in range(size)], teams)


def small_houses():
    """Houses written out for what the document names, then drawn ones."""
    told = [
        Model([], []),
        Model([], [[]]),
        Model([], [[], [], [], []]),
        Model([5], [[(ADD, 0, 0, 1)]]),
        Model([0], [[(SET, 0, 0, 1)], [(SET, 0, 0, 2)]]),
        Model([0], [[(ADD, 0, 0, 1), (ADD, 0, 0, 2)], [(ADD, 0, 0, 3)]]),
        Model([0, 1], [[(COPY, 0, 1, 0)], [(COPY, 1, 0, 0)], [(LOOK, 1, 0, 0)]]),
        Model([1, 2], [[(EXCHANGE, 0, 0, 0)], [(COPY, 1, 1, 0)], [(LOOK, 0, 0, 1), (LOOK, 1, 0, 2)]]),
        Model([1, 2, 3], [[(EXCHANGE, 0, 1, 0)], [(EXCHANGE, 1, 2, 0)], [(LOOK, 2, 0, 1)], []]),
        Model([0, 0], [[(LOOK, 0, 0, 0), (LOOK, 0, 0, 0)], [(LOOK, 0, 0, 1)], [(SET, 0, 0, 1)]]),
        Model([0, 0, 0, 0], [[(SET, t, 0, 1)] for t in range(4)]),
    ]
    return told + [drawn_house(seed, 6) for seed in range(60)]


def large_houses():
    """Houses with 8 acts, the last ones drawn."""
    apart = Model([0, 1, 2, 3, 4, 5], [[(ADD, t, 0, 1), (LOOK, t, 0, t + 1)] for t in range(4)])
    chained = Model([9, 8, 7, 6, 5, 4], [[(COPY, t, t + 1, 0), (EXCHANGE, t + 2, t, 0)] for t in range(4)])
    one_team = Model([0], [[(ADD, 0, 0, 9)] * 8])
    return [apart, chained, one_team] + [drawn_house(seed, 8) for seed in range(1000, 1010)]
