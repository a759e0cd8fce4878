"""The calls with orders: run, alike, normal, levels."""

import unittest

from helper import (ADD, COPY, EXCHANGE, LOOK, SET, alike, ask, large_houses, last, levels, normal, props, run,
                    small_houses, team)

HOUSE = [props(1, 2, 3), team((ADD, 0, 0, 4), (LOOK, 1, 0, 2)), team((SET, 1, 0, 7)), team()]


def with_each_call(order):
    """Each call that takes an order, with this one; alike with it in either place."""
    whole = [0, 0, 1]
    return [run(*order), normal(*order), levels(*order), alike(order, whole), alike(whole, order),
            alike(order, order)]


class RunTest(unittest.TestCase):
    def test_each_kind(self):
        house = props(3, 8)
        for act, end in (((SET, 0, 1, 6), [6, 8]), ((SET, 1, 0, 0), [3, 0]), ((ADD, 0, 1, 4), [7, 8]),
                         ((ADD, 1, 0, 9), [3, 7]), ((ADD, 1, 0, 2), [3, 0]), ((ADD, 0, 1, 0), [3, 8]),
                         ((COPY, 0, 1, 9), [3, 3]), ((COPY, 1, 0, 9), [8, 8]), ((EXCHANGE, 0, 1, 9), [8, 3]),
                         ((EXCHANGE, 1, 0, 9), [8, 3])):
            self.assertEqual(last(house, team(act), run(0)), [0] + end + [0], act)

    def test_looks(self):
        self.assertEqual(last(props(3, 8), team((LOOK, 0, 1, 3)), run(0)), [0, 3, 8, 1, 1])
        self.assertEqual(last(props(3, 8), team((LOOK, 0, 1, 8)), run(0)), [0, 3, 8, 1, 0])

    def test_copy_and_exchange_of_one_prop(self):
        self.assertEqual(last(props(3, 8), team((COPY, 1, 1, 0)), run(0)), [0, 3, 8, 0])
        self.assertEqual(last(props(3, 8), team((EXCHANGE, 1, 1, 0)), run(0)), [0, 3, 8, 0])

    def test_what_each_team_found(self):
        house = [props(0), team((LOOK, 0, 0, 0), (SET, 0, 0, 5), (LOOK, 0, 0, 0)), team(),
                 team((LOOK, 0, 0, 5))]
        self.assertEqual(last(*house, run(0, 0, 0, 2)), [0, 5, 2, 1, 0, 0, 1, 1])
        self.assertEqual(last(*house, run(2, 0, 0, 0)), [0, 5, 2, 1, 0, 0, 1, 0])

    def test_nothing_changes(self):
        told = ask(*HOUSE, run(0, 1, 0), run(0, 1, 0), run(0, 0, 1), run(0, 1, 0))
        self.assertEqual(told[4:], [[0, 5, 7, 3, 1, 0, 0, 0], [0, 5, 7, 3, 1, 0, 0, 0],
                                    [0, 5, 7, 3, 1, 1, 0, 0], [0, 5, 7, 3, 1, 0, 0, 0]])

    def test_eight_acts(self):
        self.assertEqual(last(props(5), team(*[(ADD, 0, 0, 9)] * 8), run(*[0] * 8)), [0, 7, 0])

    def test_as_by_brute_force(self):
        for model in small_houses() + large_houses():
            some = model.orders()[:30]
            told = ask(*model.calls(), *[run(*order) for order in some])
            self.assertEqual(told[1 + len(model.teams):], [[0] + model.told_end(order) for order in some])


class AlikeTest(unittest.TestCase):
    def test_clashing_acts_keep_their_order(self):
        house = [props(0, 0), team((SET, 0, 0, 1)), team((LOOK, 0, 0, 1))]
        self.assertEqual(last(*house, alike([0, 1], [1, 0])), [0, 0])
        self.assertEqual(last(*house, alike([0, 1], [0, 1])), [0, 1])

    def test_acts_that_do_not_clash_may_change_places(self):
        house = [props(0, 0), team((SET, 0, 0, 1)), team((LOOK, 1, 0, 1))]
        self.assertEqual(last(*house, alike([0, 1], [1, 0])), [0, 1])

    def test_orders_that_end_alike_need_not_be_alike(self):
        house = [props(0), team((ADD, 0, 0, 1)), team((ADD, 0, 0, 2))]
        self.assertEqual(last(*house, alike([0, 1], [1, 0])), [0, 0])

    def test_empty_orders(self):
        self.assertEqual(last(alike([], [])), [0, 1])
        self.assertEqual(last(team(), alike([], [])), [0, 1])


class NormalTest(unittest.TestCase):
    def test_the_lesser_team_comes_first_where_it_may(self):
        house = [props(0, 0, 0), team((SET, 0, 0, 1)), team((SET, 1, 0, 1)), team((COPY, 0, 2, 0))]
        self.assertEqual(last(*house, normal(2, 1, 0)), [0, 1, 2, 0])
        self.assertEqual(last(*house, normal(2, 0, 1)), [0, 1, 2, 0])
        self.assertEqual(last(*house, normal(1, 0, 2)), [0, 0, 1, 2])

    def test_an_act_passes_several(self):
        house = [props(0, 0), team((SET, 1, 0, 1)), team((SET, 0, 0, 1), (SET, 0, 0, 2)), team((LOOK, 0, 0, 2))]
        self.assertEqual(last(*house, normal(1, 1, 2, 0)), [0, 0, 1, 1, 2])

    def test_an_act_comes_first_though_a_lesser_one_stands_between(self):
        house = [props(0, 0), team((SET, 0, 0, 1)), team((SET, 1, 0, 1)), team((LOOK, 0, 0, 1))]
        self.assertEqual(last(*house, normal(2, 0, 1)), [0, 1, 2, 0])

    def test_empty_order(self):
        self.assertEqual(last(normal()), [0])


class LevelsTest(unittest.TestCase):
    def test_levels(self):
        house = [props(0, 0, 0), team((SET, 0, 0, 1), (SET, 2, 0, 1)), team((SET, 1, 0, 1)), team((COPY, 0, 1, 0))]
        self.assertEqual(last(*house, levels(0, 1, 2, 0)), [0, 1, 1, 2, 2])
        self.assertEqual(last(*house, levels(1, 2, 0, 0)), [0, 1, 2, 3, 4])
        self.assertEqual(last(*house, levels(2, 0, 0, 1)), [0, 1, 2, 3, 2])

    def test_one_team_stands_one_above_another(self):
        self.assertEqual(last(props(0), team(*[(LOOK, 0, 0, 0)] * 8), levels(*[0] * 8)), [0] + list(range(1, 9)))

    def test_looks_of_unlike_teams_stand_at_one_level(self):
        look = team((LOOK, 0, 0, 0))
        self.assertEqual(last(props(0), look, look, look, look, levels(3, 1, 0, 2)), [0, 1, 1, 1, 1])

    def test_empty_order(self):
        self.assertEqual(last(levels()), [0])

    def test_as_by_brute_force(self):
        for model in small_houses() + large_houses():
            some = model.orders()[-30:]
            told = ask(*model.calls(), *[levels(*order) for order in some])
            self.assertEqual(told[1 + len(model.teams):], [[0] + model.levels(order) for order in some])


class RefusedOrdersTest(unittest.TestCase):
    def test_out_of_range(self):
        for order in ([4], [-1], [0, 0, 4], [-1, 0, 0], [10 ** 18, 0, 0], [0, 0, -10 ** 18], [0] * 9, [0] * 70):
            for call in with_each_call(order):
                self.assertEqual(last(*HOUSE, call), [-1], call)

    def test_not_whole(self):
        for order in ([], [0], [0, 0], [0, 1, 1], [0, 0, 0], [0, 0, 0, 1], [0, 0, 1, 1], [0, 0, 2], [1, 1, 0],
                      [0, 0, 1, 0, 0, 1, 0, 0]):
            for call in with_each_call(order):
                self.assertEqual(last(*HOUSE, call), [-6], call)

    def test_a_team_without_acts_does_not_stand_in_an_order(self):
        for call in with_each_call([0, 0, 1, 2]):
            self.assertEqual(last(*HOUSE, call), [-6], call)

    def test_a_team_that_is_not_there(self):
        for call in with_each_call([0, 0, 1, 3]):
            self.assertEqual(last(*HOUSE, call), [-6], call)
        for call in (run(0), run(3), normal(0), levels(0), alike([0], [0]), alike([], [0]), alike([0], [])):
            self.assertEqual(last(call), [-6], call)

    def test_the_refusal_nearest_to_0(self):
        self.assertEqual(last(*HOUSE, alike([0], [4])), [-1])
        self.assertEqual(last(*HOUSE, alike([4], [0])), [-1])
        self.assertEqual(last(*HOUSE, alike([0], [0] * 9)), [-1])

    def test_numbers_at_the_ends_of_their_range(self):
        look = team((LOOK, 0, 0, 0))
        self.assertEqual(last(props(0), look, look, look, look, run(3, 0, 2, 1)), [0, 0, 1, 1, 1, 1, 1, 1, 1, 1])


if __name__ == "__main__":
    unittest.main()
