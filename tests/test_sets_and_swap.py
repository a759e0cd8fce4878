"""The calls sets and swap."""

import unittest

from helper import (ADD, COPY, EXCHANGE, LOOK, SET, alike, ask, large_houses, last, props, run, sets, small_houses,
                    swap, team, told_sets)

FULL = props(0, 1, 2, 3, 4, 5)
HOUSE = [props(1, 2, 3), team((ADD, 0, 0, 4), (LOOK, 1, 0, 2)), team((SET, 1, 0, 7)), team()]


class SetsTest(unittest.TestCase):
    def test_each_kind(self):
        for act, told in (((SET, 2, 4, 1), [0, 0, 2]), ((ADD, 2, 4, 1), [0, 1, 2, 2]), ((COPY, 2, 4, 1), [0, 1, 2, 4]),
                          ((EXCHANGE, 2, 4, 1), [0, 2, 2, 4, 2, 4]), ((LOOK, 2, 4, 1), [0, 1, 2])):
            self.assertEqual(last(FULL, team(act), sets(0, 0)), told, act)

    def test_an_exchange_tells_p_first(self):
        self.assertEqual(last(FULL, team((EXCHANGE, 5, 0, 0)), sets(0, 0)), [0, 2, 5, 0, 5, 0])

    def test_p_and_q_are_one_prop(self):
        self.assertEqual(last(FULL, team((EXCHANGE, 3, 3, 0)), sets(0, 0)), [0, 2, 3, 3, 3, 3])
        self.assertEqual(last(FULL, team((COPY, 3, 3, 0)), sets(0, 0)), [0, 1, 3, 3])

    def test_every_act(self):
        for model in small_houses() + large_houses():
            acts = [(t, i) for t, row in enumerate(model.teams) for i in range(len(row))]
            told = ask(*model.calls(), *[sets(*act) for act in acts])[1 + len(model.teams):]
            self.assertEqual(told, [[0] + told_sets(model.teams[t][i]) for t, i in acts])

    def test_numbers_at_the_ends_of_their_ranges(self):
        house = [props(0), team(), team(), team(), team(*[(LOOK, 0, 0, 0)] * 7, (SET, 0, 0, 0))]
        self.assertEqual(ask(*house, sets(3, 7), sets(3, 0), sets(0, 0), sets(0, 7))[5:],
                         [[0, 0, 0], [0, 1, 0], [-3], [-3]])

    def test_out_of_range(self):
        for numbers in ((4, 0), (-1, 0), (0, 8), (0, -1), (10 ** 18, 0), (0, -10 ** 18), (-10 ** 18, 10 ** 18)):
            self.assertEqual(last(*HOUSE, sets(*numbers)), [-1], numbers)

    def test_no_such_team_or_act(self):
        for numbers in ((3, 0), (2, 0), (0, 2), (1, 1), (0, 7), (3, 7)):
            self.assertEqual(last(*HOUSE, sets(*numbers)), [-3], numbers)
        self.assertEqual(last(sets(0, 0)), [-3])

    def test_the_refusal_nearest_to_0(self):
        for numbers in ((3, 8), (4, 7), (2, -1), (-1, 5)):
            self.assertEqual(last(*HOUSE, sets(*numbers)), [-1], numbers)


class SwapTest(unittest.TestCase):
    def test_acts_that_do_not_hang_on_one_another(self):
        self.assertEqual(last(*HOUSE, swap(0, 0, 1, 0)), [0, 1, 0, 0])
        self.assertEqual(last(*HOUSE, swap(0, 1, 0, 0)), [0, 0, 1, 0])

    def test_acts_that_clash(self):
        self.assertEqual(last(*HOUSE, swap(1, 0, 1, 0)), [-8])
        self.assertEqual(last(*HOUSE, swap(1, 0, 0, 1)), [-8])

    def test_acts_of_one_team(self):
        self.assertEqual(last(*HOUSE, swap(0, 0, 0, 1)), [-8])
        self.assertEqual(last(*HOUSE, swap(1, 1, 0, 0)), [-8])
        self.assertEqual(last(props(0, 0), team((LOOK, 0, 0, 0), (LOOK, 1, 0, 0)), swap(0, 0, 0)), [-8])

    def test_the_acts_and_not_the_teams_are_asked(self):
        # Team 0's first act leaves team 1's alone, its second one doesn't.
        house = [props(0, 0), team((SET, 0, 0, 1), (SET, 1, 0, 1)), team((LOOK, 1, 0, 1))]
        self.assertEqual(ask(*house, swap(0, 1, 0, 0), swap(0, 0, 1, 0), swap(1, 0, 1, 0), swap(1, 0, 0, 1))[3:],
                         [[0, 0, 1, 0], [0, 1, 0, 0], [-8], [-8]])

    def test_nothing_changes(self):
        told = ask(*HOUSE, run(0, 1, 0), swap(0, 0, 1, 0), run(0, 1, 0), swap(0, 0, 1, 0))
        self.assertEqual(told[4], told[6])
        self.assertEqual(told[5], told[7])

    def test_the_first_and_the_last_place(self):
        teams = [team((LOOK, 0, 0, 0), (LOOK, 0, 0, 0)) for _ in range(4)]
        order = [0, 1, 2, 3, 0, 1, 2, 3]
        told = ask(props(0), *teams, *[swap(i, *order) for i in range(7)])[5:]
        for i, answer in enumerate(told):
            self.assertEqual(answer, [0] + order[:i] + [order[i + 1], order[i]] + order[i + 2:])

    def test_every_place_of_orders(self):
        for model in small_houses() + large_houses()[:3]:
            for order in model.orders()[::7][:20]:
                told = ask(*model.calls(), *[swap(i, *order) for i in range(7)])[1 + len(model.teams):]
                self.assertEqual(told, [self.by_the_words(model, order, i) for i in range(7)], (model.teams, order))

    def by_the_words(self, model, order, i):
        acts = model.places(order)
        if i + 1 >= len(acts):
            return [-7]
        if model.hang(acts[i], acts[i + 1]):
            return [-8]
        acts[i:i + 2] = [acts[i + 1], acts[i]]
        return [0] + [t for t, number in acts]

    def test_what_is_swapped_is_alike(self):
        for model in small_houses():
            order = model.orders()[-1]
            for i in range(len(order) - 1):
                answer = last(*model.calls(), swap(i, *order))
                if answer[0] == 0:
                    self.assertEqual(last(*model.calls(), alike(order, answer[1:])), [0, 1])

    def test_no_act_behind_it(self):
        for i in range(2, 7):
            self.assertEqual(last(*HOUSE, swap(i, 0, 1, 0)), [-7], i)
        for i in range(7):
            self.assertEqual(last(swap(i)), [-7], i)
            self.assertEqual(last(props(0), team((LOOK, 0, 0, 0)), swap(i, 0)), [-7], i)

    def test_not_whole(self):
        for order in ([], [0], [0, 0], [0, 1, 1], [0, 0, 0, 1], [0, 0, 1, 2], [0, 0, 1, 3], [3, 3, 3]):
            for i in (0, 1, 6):
                self.assertEqual(last(*HOUSE, swap(i, *order)), [-6], order)

    def test_out_of_range(self):
        for i in (-1, 7, 10 ** 18, -10 ** 18):
            self.assertEqual(last(*HOUSE, swap(i, 0, 1, 0)), [-1], i)
        for order in ([4], [-1, 0, 0], [0, 1, 10 ** 18], [0] * 9, [0] * 70):
            self.assertEqual(last(*HOUSE, swap(0, *order)), [-1], order)

    def test_the_refusal_nearest_to_0(self):
        self.assertEqual(last(*HOUSE, swap(7, 0)), [-1])
        self.assertEqual(last(*HOUSE, swap(-1, 0, 0, 1)), [-1])
        self.assertEqual(last(*HOUSE, swap(6, 4)), [-1])
        self.assertEqual(last(*HOUSE, swap(6, 0, 0)), [-6])
        self.assertEqual(last(*HOUSE, swap(0, 0, 0)), [-6])
        self.assertEqual(last(swap(0, 0, 0)), [-6])


if __name__ == "__main__":
    unittest.main()
