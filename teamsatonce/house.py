"""The house: its props and teams, and what it answers to calls."""

from teamsatonce.acts import Act, props_meant
from teamsatonce.courses import course_of, end_told, is_won, whole_courses
from teamsatonce.orders import (
    acts_together,
    are_alike,
    hang_together,
    is_whole,
    levels_in,
    normal_form,
    normal_forms,
)
from teamsatonce.reading import call_at

MOST_PROPS = 6
MOST_TEAMS = 4
MOST_ACTS = 8
HIGHEST_VALUE = 9
HIGHEST_IN_ACT = (4, 5, 5, 9)

OUT_OF_RANGE = -1
NOT_THERE = -3
TOO_MANY = -4
TEAMS_ALREADY = -5
NOT_WHOLE = -6


def are_within(numbers, highest):
    return all([0 <= number <= highest for number in numbers])


def are_acts(numbers):
    """Whether these are four numbers for each act, each within its range (where it means nothing, too)."""
    if len(numbers) % 4 != 0:
        return False
    return all([0 <= number <= HIGHEST_IN_ACT[place % 4] for place, number in enumerate(numbers)])


def acts_from(numbers):
    return [Act(numbers[k], numbers[k + 1], numbers[k + 2], numbers[k + 3]) for k in range(0, len(numbers), 4)]


def is_order(numbers):
    return len(numbers) <= MOST_ACTS and are_within(numbers, MOST_TEAMS - 1)


class House:
    """The props' values at first, and for each team its acts.

    Each method answers one call. Refusals are looked for from -1 downwards: the one nearest to 0 is answered.
    """

    def __init__(self):
        self.start_values = []
        self.teams = []

    def props(self, start_values):
        if len(start_values) > MOST_PROPS or not are_within(start_values, HIGHEST_VALUE):
            return [OUT_OF_RANGE]
        if len(self.teams) > 0:
            return [TEAMS_ALREADY]
        self.start_values = list(start_values)
        return [0]

    def has_props_of(self, act):
        return all([prop < len(self.start_values) for prop in props_meant(act)])

    def team(self, numbers):
        if not are_acts(numbers):
            return [OUT_OF_RANGE]
        acts = acts_from(numbers)
        if not all([self.has_props_of(act) for act in acts]):
            return [NOT_THERE]
        if len(self.teams) == MOST_TEAMS or acts_together(self.teams) + len(acts) > MOST_ACTS:
            return [TOO_MANY]
        self.teams.append(acts)
        return [0, len(self.teams) - 1]

    def orders_refusal(self, orders):
        """The refusal that is due for a call with these orders, or 0."""
        if not all([is_order(order) for order in orders]):
            return OUT_OF_RANGE
        if not all([is_whole(self.teams, order) for order in orders]):
            return NOT_WHOLE
        return 0

    def run(self, order):
        refusal = self.orders_refusal([order])
        if refusal < 0:
            return [refusal]
        return [0] + end_told(course_of(self.start_values, self.teams, order))

    def alike(self, order, other):
        refusal = self.orders_refusal([order, other])
        if refusal < 0:
            return [refusal]
        return [0, 1 if are_alike(self.teams, order, other) else 0]

    def normal(self, order):
        refusal = self.orders_refusal([order])
        if refusal < 0:
            return [refusal]
        return [0] + normal_form(self.teams, order)

    def levels(self, order):
        refusal = self.orders_refusal([order])
        if refusal < 0:
            return [refusal]
        return [0] + levels_in(self.teams, order)

    def counts(self):
        courses = whole_courses(self.start_values, self.teams)
        ends = len(set([tuple(end_told(course)) for course in courses]))
        return [0, len(courses), len(normal_forms(self.teams)), ends]

    def sure(self):
        courses = whole_courses(self.start_values, self.teams)
        least_end = end_told(courses[0])
        for course in courses:
            if end_told(course) != least_end:
                return [0, 0] + courses[0].order + course.order
        return [0, 1]

    def wins(self):
        won = [course for course in whole_courses(self.start_values, self.teams) if is_won(course)]
        if len(won) == 0:
            return [0, 0]
        return [0, len(won)] + won[0].order

    def has_act(self, team, act):
        return team < len(self.teams) and act < len(self.teams[team])

    def hang(self, t, i, u, j):
        if not are_within([t, u], MOST_TEAMS - 1) or not are_within([i, j], MOST_ACTS - 1):
            return [OUT_OF_RANGE]
        if not self.has_act(t, i) or not self.has_act(u, j):
            return [NOT_THERE]
        return [0, 1 if hang_together(self.teams, (t, i), (u, j)) else 0]


def answer_to(house, call):
    if call.number == 0:
        return house.props(call.rows[0])
    if call.number == 1:
        return house.team(call.rows[0])
    if call.number == 2:
        return house.run(call.rows[0])
    if call.number == 3:
        return house.alike(call.rows[0], call.rows[1])
    if call.number == 4:
        return house.normal(call.rows[0])
    if call.number == 5:
        return house.levels(call.rows[0])
    if call.number == 6:
        return house.counts()
    if call.number == 7:
        return house.sure()
    if call.number == 8:
        return house.wins()
    return house.hang(call.numbers[0], call.numbers[1], call.numbers[2], call.numbers[3])


def answers(calls):
    """The answers to these calls on a new house, each with how many numbers it has before it."""
    house = House()
    told = []
    place = 0
    while place < len(calls):
        call = call_at(calls, place)
        answer = answer_to(house, call)
        told.append(len(answer))
        told.extend(answer)
        place = call.behind
    return told
