"""Promises 1, 2 and 5, over all whole orders of small houses and after each refusal.

Promise 3 is tested in test_timetables.py, promise 4 in test_rates.py.
"""

import itertools
import unittest

from helper import (ADD, COPY, COUNTS, FORBIDDEN, LOOK, PRICES, RATE, SET, SIZES, SURE, WINS, alike, ask, fits, hang,
                    large_houses, levels, most, normal, path, props, proves, run, sets, small_houses, swap, team)

# A list of calls has at most 60: this many are asked behind those that set up the house.
AT_ONCE = 50


def asked_of(model, calls):
    """The answers to these calls on the model's house, however many."""
    told = []
    for begin in range(0, len(calls), AT_ONCE):
        told.extend(ask(*model.calls(), *calls[begin:begin + AT_ONCE])[1 + len(model.teams):])
    return told


def few_orders(model):
    """All whole orders, or some from all over where all pairs of them would be too many."""
    orders = model.orders()
    return orders[::1 + (len(orders) - 1) // 24]


class AlikeOrdersTest(unittest.TestCase):
    def test_alike_orders_end_alike_and_have_one_normal_form(self):
        for model in small_houses():
            orders = few_orders(model)
            pairs = list(itertools.product(orders, orders))
            ends = dict(zip(map(tuple, orders), asked_of(model, [run(*order) for order in orders])))
            forms = dict(zip(map(tuple, orders), asked_of(model, [normal(*order) for order in orders])))
            told = asked_of(model, [alike(*pair) for pair in pairs])
            for (order, other), answer in zip(pairs, told):
                self.assertEqual(answer, [0, int(model.kept_pairs(order) == model.kept_pairs(other))])
                self.assertEqual(answer[1] == 1, forms[tuple(order)] == forms[tuple(other)])
                if answer[1] == 1:
                    self.assertEqual(ends[tuple(order)], ends[tuple(other)])

    def test_the_normal_form_is_the_least_of_all_alike(self):
        for model in small_houses() + large_houses()[:2]:
            for orders in model.classes():
                told = asked_of(model, [normal(*order) for order in orders])
                self.assertEqual(told, [[0] + orders[0]] * len(orders))

    def test_all_orders_of_one_class_end_alike(self):
        for model in small_houses() + large_houses()[:2]:
            for orders in model.classes():
                told = asked_of(model, [run(*order) for order in orders])
                self.assertEqual(told, [told[0]] * len(told))


class RefusedCallsTest(unittest.TestCase):
    SET_UP = [props(1, 2), team((ADD, 0, 0, 3), (LOOK, 1, 0, 2)), team((COPY, 0, 1, 0)),
              path((0, 1), (1, 2), (0, 1))]
    BEHIND = [run(0, 1, 0), alike([0, 0, 1], [1, 0, 0]), normal(1, 0, 0), levels(0, 1, 0), COUNTS, SURE, WINS,
              hang(0, 1, 1, 0), sets(1, 0), swap(0, 0, 1, 0), FORBIDDEN, most(9), fits(0, 2, 4), RATE, PRICES,
              proves(1, 1, 0, 0, 0), SIZES, team((SET, 1, 0, 4)), COUNTS, run(2, 0, 1, 0), team(), team(), props(0),
              SIZES, path((4, 2)), FORBIDDEN, SIZES]
    REFUSED = [
        (-1, props(10)), (-1, props(*[0] * 7)), (-5, props(3, 4)), (-5, props()),
        (-1, team((0, 0, 0, 10))), (-1, [1, 3, 0, 0, 0]), (-3, team((SET, 2, 0, 0))), (-3, team((COPY, 0, 2, 0))),
        (-3, team((SET, 0, 0, 0), (SET, 2, 0, 0))), (-4, team(*[(SET, 0, 0, 0)] * 6)),
        (-1, run(4)), (-6, run(0, 0)), (-1, alike([0, 0, 1], [4])), (-6, alike([0, 0, 1], [1])),
        (-1, normal(-1)), (-6, normal()), (-1, levels(*[0] * 9)), (-6, levels(0, 0, 1, 1)),
        (-1, hang(4, 0, 0, 0)), (-3, hang(2, 0, 0, 0)), (-1, sets(0, 8)), (-3, sets(1, 1)),
        (-1, swap(7, 0, 0, 1)), (-6, swap(0, 0, 0)), (-7, swap(2, 0, 0, 1)), (-8, swap(0, 0, 0, 1)),
        (-1, path()), (-1, [12, 1, 0]), (-1, path((0, 8))), (-1, path((5, 3), (10, 1))), (-9, path((5, 7), (6, 1))),
        (-9, path(*[(0, 1)] * 8)), (-1, most(31)), (-1, fits(1001)), (-1, proves(1, 1001)),
    ]

    def test_what_follows_answers_as_if_it_had_not_been_made(self):
        as_before = ask(*self.SET_UP, *self.BEHIND)
        for refusal, call in self.REFUSED:
            told = ask(*self.SET_UP, call, *self.BEHIND)
            self.assertEqual(told[4], [refusal], call)
            self.assertEqual(told[:4] + told[5:], as_before, call)

    def test_all_of_them_behind_one_another(self):
        as_before = ask(*self.SET_UP, *self.BEHIND)
        for begin in range(0, len(self.REFUSED), 20):
            calls = [call for refusal, call in self.REFUSED[begin:begin + 20]]
            told = ask(*self.SET_UP, *calls, *self.BEHIND)
            self.assertEqual(told[:4] + told[4 + len(calls):], as_before)

    def test_before_there_is_a_path(self):
        behind = [SIZES, FORBIDDEN, most(3), path((0, 2)), SIZES, FORBIDDEN, most(3)]
        for refusal, call in ((-1, path()), (-1, path((0, 0))), (-9, path((0, 7), (1, 7))), (-2, FORBIDDEN),
                              (-2, most(0)), (-2, fits(1)), (-2, RATE), (-2, PRICES), (-2, proves(1, 1, 0))):
            told = ask(call, *behind)
            self.assertEqual(told[0], [refusal], call)
            self.assertEqual(told[1:], ask(*behind), call)

    def test_before_there_are_teams(self):
        behind = [run(), COUNTS, team((ADD, 1, 0, 1)), run(0)]
        for refusal, call in ((-1, props(10)), (-1, props(1, 2, 3, 4, 5, 6, 7)), (-3, team((ADD, 2, 0, 1))),
                              (-1, team((5, 0, 0, 0))), (-4, team(*[(ADD, 0, 0, 1)] * 9)), (-6, run(0)),
                              (-3, hang(0, 0, 0, 0))):
            told = ask(props(1, 2), call, *behind)
            self.assertEqual(told[1], [refusal], call)
            self.assertEqual(told[:1] + told[2:], ask(props(1, 2), *behind), call)

    def test_a_fifth_team_is_not_there(self):
        four = [props(0), team(), team(), team(), team()]
        told = ask(*four, team((ADD, 0, 0, 1)), COUNTS, run(), run(0))
        self.assertEqual(told[5:], [[-4], [0, 1, 1, 1], [0, 0, 0, 0, 0, 0], [-6]])


if __name__ == "__main__":
    unittest.main()
