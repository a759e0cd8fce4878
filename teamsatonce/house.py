"""The house: its props, teams and path, and what it answers to calls."""

from teamsatonce.acts import Act, props_meant
from teamsatonce.courses import course_of, end_told, is_won, whole_courses
from teamsatonce.masks import ways_by_place
from teamsatonce.orders import (
    acts_together,
    are_alike,
    hang_at,
    hang_together,
    is_whole,
    levels_in,
    normal_form,
    normal_forms,
    swapped,
)
from teamsatonce.paths import Path, length_of, times_fit
from teamsatonce.rates import best_rate, prices_prove, told_prices
from teamsatonce.reading import call_at
from teamsatonce.timetables import told_timetable

MOST_PROPS = 6
MOST_TEAMS = 4
MOST_ACTS = 8
HIGHEST_VALUE = 9
HIGHEST_IN_ACT = (4, 5, 5, 9)
HIGHEST_PLACE_TO_SWAP = 6
HIGHEST_ROOM = 9
LONGEST_PATH = 7
HIGHEST_H = 30
MOST_TIMES = 40
HIGHEST_TIME = 1000
HIGHEST_IN_RATE = 1000
MOST_PRICES = 64
HIGHEST_PRICE = 1000000

OUT_OF_RANGE = -1
NO_PATH = -2
NOT_THERE = -3
TOO_MANY = -4
TEAMS_ALREADY = -5
NOT_WHOLE = -6
NONE_BEHIND = -7
HANGING = -8
TOO_LONG = -9


def are_within(numbers, lowest, highest):
    return all([lowest <= number <= highest for number in numbers])


def are_acts(numbers):
    """Whether these are four numbers for each act, each within its range (where it means nothing, too)."""
    if len(numbers) % 4 != 0:
        return False
    return all([0 <= number <= HIGHEST_IN_ACT[place % 4] for place, number in enumerate(numbers)])


def acts_from(numbers):
    return [Act(numbers[k], numbers[k + 1], numbers[k + 2], numbers[k + 3]) for k in range(0, len(numbers), 4)]


def is_order(numbers):
    return len(numbers) <= MOST_ACTS and are_within(numbers, 0, MOST_TEAMS - 1)


def is_path(numbers):
    """Whether these are a room and a stay, each within its range, for at least one room."""
    if len(numbers) == 0 or len(numbers) % 2 != 0:
        return False
    return are_within(numbers[0::2], 0, HIGHEST_ROOM) and are_within(numbers[1::2], 1, LONGEST_PATH)


class House:
    """The props' values at first, for each team its acts, and the path (None as long as there is none).

    Each method answers one call. Refusals are looked for from -1 downwards: the one nearest to 0 is answered.
    """

    def __init__(self):
        self.start_values = []
        self.teams = []
        self.path_now = None

    def props(self, start_values):
        if len(start_values) > MOST_PROPS or not are_within(start_values, 0, HIGHEST_VALUE):
            return [OUT_OF_RANGE]
        if len(self.teams) > 0:
            return [TEAMS_ALREADY]
        self.start_values = list(start_values)
        return [0]

    def has_props_of(self, act):
        return all([prop < len(self.start_values) for prop in props_meant(act)])

    def team(self, numbers):
        if not are_acts(numbers):
            return [OUT_OF_RANGE]
        acts = acts_from(numbers)
        if not all([self.has_props_of(act) for act in acts]):
            return [NOT_THERE]
        if len(self.teams) == MOST_TEAMS or acts_together(self.teams) + len(acts) > MOST_ACTS:
            return [TOO_MANY]
        self.teams.append(acts)
        return [0, len(self.teams) - 1]

    def orders_refusal(self, orders):
        """The refusal that is due for a call with these orders, or 0."""
        if not all([is_order(order) for order in orders]):
            return OUT_OF_RANGE
        if not all([is_whole(self.teams, order) for order in orders]):
            return NOT_WHOLE
        return 0

    def run(self, order):
        refusal = self.orders_refusal([order])
        if refusal < 0:
            return [refusal]
        return [0] + end_told(course_of(self.start_values, self.teams, order))

    def alike(self, order, other):
        refusal = self.orders_refusal([order, other])
        if refusal < 0:
            return [refusal]
        return [0, 1 if are_alike(self.teams, order, other) else 0]

    def normal(self, order):
        refusal = self.orders_refusal([order])
        if refusal < 0:
            return [refusal]
        return [0] + normal_form(self.teams, order)

    def levels(self, order):
        refusal = self.orders_refusal([order])
        if refusal < 0:
            return [refusal]
        return [0] + levels_in(self.teams, order)

    def counts(self):
        courses = whole_courses(self.start_values, self.teams)
        ends = len(set([tuple(end_told(course)) for course in courses]))
        return [0, len(courses), len(normal_forms(self.teams)), ends]

    def sure(self):
        courses = whole_courses(self.start_values, self.teams)
        least_end = end_told(courses[0])
        for course in courses:
            if end_told(course) != least_end:
                return [0, 0] + courses[0].order + course.order
        return [0, 1]

    def wins(self):
        won = [course for course in whole_courses(self.start_values, self.teams) if is_won(course)]
        if len(won) == 0:
            return [0, 0]
        return [0, len(won)] + won[0].order

    def has_act(self, team, act):
        return team < len(self.teams) and act < len(self.teams[team])

    def hang(self, t, i, u, j):
        if not are_within([t, u], 0, MOST_TEAMS - 1) or not are_within([i, j], 0, MOST_ACTS - 1):
            return [OUT_OF_RANGE]
        if not self.has_act(t, i) or not self.has_act(u, j):
            return [NOT_THERE]
        return [0, 1 if hang_together(self.teams, (t, i), (u, j)) else 0]

    def sets(self, t, i):
        if not are_within([t], 0, MOST_TEAMS - 1) or not are_within([i], 0, MOST_ACTS - 1):
            return [OUT_OF_RANGE]
        if not self.has_act(t, i):
            return [NOT_THERE]
        act = self.teams[t][i]
        return [0, len(act.reads)] + act.reads + act.writes

    def swap(self, i, order):
        if not are_within([i], 0, HIGHEST_PLACE_TO_SWAP):
            return [OUT_OF_RANGE]
        refusal = self.orders_refusal([order])
        if refusal < 0:
            return [refusal]
        if i + 1 >= len(order):
            return [NONE_BEHIND]
        if hang_at(self.teams, order, i):
            return [HANGING]
        return [0] + swapped(order, i)

    def path(self, numbers):
        if not is_path(numbers):
            return [OUT_OF_RANGE]
        if length_of(numbers) > LONGEST_PATH:
            return [TOO_LONG]
        self.path_now = Path(numbers)
        return [0, length_of(numbers)]

    def forbidden(self):
        if self.path_now is None:
            return [NO_PATH]
        return [0] + self.path_now.differences

    def most(self, h):
        if not are_within([h], 0, HIGHEST_H):
            return [OUT_OF_RANGE]
        if self.path_now is None:
            return [NO_PATH]
        timetable = told_timetable(ways_by_place(self.path_now), h)
        return [0, len(timetable)] + timetable

    def fits(self, times):
        if len(times) > MOST_TIMES or not are_within(times, 0, HIGHEST_TIME):
            return [OUT_OF_RANGE]
        if self.path_now is None:
            return [NO_PATH]
        return [0, 1 if times_fit(self.path_now.differences, times) else 0]

    def rate(self):
        if self.path_now is None:
            return [NO_PATH]
        ways = ways_by_place(self.path_now)
        best = best_rate(ways)
        return [0, best[0], best[1], len(ways)]

    def prices(self):
        if self.path_now is None:
            return [NO_PATH]
        return [0] + told_prices(ways_by_place(self.path_now))

    def proves(self, n, d, some_prices):
        if not are_within([n, d], 0, HIGHEST_IN_RATE):
            return [OUT_OF_RANGE]
        if len(some_prices) > MOST_PRICES or not are_within(some_prices, -HIGHEST_PRICE, HIGHEST_PRICE):
            return [OUT_OF_RANGE]
        if self.path_now is None:
            return [NO_PATH]
        return [0, 1 if prices_prove((n, d), some_prices, ways_by_place(self.path_now)) else 0]

    def sizes(self):
        rooms = 0 if self.path_now is None else self.path_now.room_count
        return [0, len(self.start_values), len(self.teams), acts_together(self.teams), rooms]


def answer_about_path(house, call):
    """The answer to one of the calls 12 to 18, or to sizes, which counts the path's rooms too."""
    if call.number == 12:
        return house.path(call.rows[0])
    if call.number == 13:
        return house.forbidden()
    if call.number == 14:
        return house.most(call.numbers[0])
    if call.number == 15:
        return house.fits(call.rows[0])
    if call.number == 16:
        return house.rate()
    if call.number == 17:
        return house.prices()
    if call.number == 18:
        return house.proves(call.numbers[0], call.numbers[1], call.rows[0])
    return house.sizes()


def answer_to(house, call):
    if call.number == 0:
        return house.props(call.rows[0])
    if call.number == 1:
        return house.team(call.rows[0])
    if call.number == 2:
        return house.run(call.rows[0])
    if call.number == 3:
        return house.alike(call.rows[0], call.rows[1])
    if call.number == 4:
        return house.normal(call.rows[0])
    if call.number == 5:
        return house.levels(call.rows[0])
    if call.number == 6:
        return house.counts()
    if call.number == 7:
        return house.sure()
    if call.number == 8:
        return house.wins()
    if call.number == 9:
        return house.hang(call.numbers[0], call.numbers[1], call.numbers[2], call.numbers[3])
    if call.number == 10:
        return house.sets(call.numbers[0], call.numbers[1])
    if call.number == 11:
        return house.swap(call.numbers[0], call.rows[0])
    return answer_about_path(house, call)


def answers(calls):
    """The answers to these calls on a new house, each with how many numbers it has before it."""
    house = House()
    told = []
    place = 0
    while place < len(calls):
        call = call_at(calls, place)
        answer = answer_to(house, call)
        told.append(len(answer))
        told.extend(answer)
        place = call.behind
    return told
