"""The calls about all orders, and hang: counts, sure, wins, hang."""

import unittest

from helper import (ADD, COPY, COUNTS, EXCHANGE, LOOK, SET, SURE, WINS, ask, hang, large_houses, last, props,
                    small_houses, team)
from teamsatonce.acts import Act
from teamsatonce.orders import normal_forms


class CountsTest(unittest.TestCase):
    def test_no_teams(self):
        self.assertEqual(last(COUNTS), [0, 1, 1, 1])
        self.assertEqual(last(props(1, 2), COUNTS), [0, 1, 1, 1])

    def test_adding_to_one_prop(self):
        house = [props(0), team((ADD, 0, 0, 1)), team((ADD, 0, 0, 2)), team((ADD, 0, 0, 3))]
        self.assertEqual(last(*house, COUNTS), [0, 6, 6, 1])

    def test_setting_one_prop(self):
        house = [props(0), team((SET, 0, 0, 1)), team((SET, 0, 0, 2)), team((SET, 0, 0, 2))]
        self.assertEqual(last(*house, COUNTS), [0, 6, 6, 2])

    def test_ends_differ_by_looks_alone(self):
        house = [props(0), team((LOOK, 0, 0, 0)), team((SET, 0, 0, 1)), team((LOOK, 0, 0, 0))]
        self.assertEqual(last(*house, COUNTS), [0, 6, 4, 4])

    def test_most_whole_orders(self):
        apart = [team((ADD, t, 0, 1), (ADD, t, 0, 1)) for t in range(4)]
        self.assertEqual(last(props(0, 0, 0, 0), *apart, COUNTS), [0, 2520, 1, 1])
        together = [team((ADD, 0, 0, 1), (ADD, 0, 0, 1)) for t in range(4)]
        self.assertEqual(last(props(0), *together, COUNTS), [0, 2520, 2520, 1])


class SureTest(unittest.TestCase):
    def test_no_teams(self):
        self.assertEqual(last(SURE), [0, 1])
        self.assertEqual(last(team(), SURE), [0, 1])

    def test_all_end_alike_though_they_clash(self):
        self.assertEqual(last(props(0), team((ADD, 0, 0, 1)), team((ADD, 0, 0, 2)), SURE), [0, 1])

    def test_the_least_that_ends_otherwise(self):
        house = [props(0, 0), team((SET, 0, 0, 1)), team((ADD, 1, 0, 1)), team((SET, 0, 0, 2))]
        self.assertEqual(last(*house, SURE), [0, 0, 0, 1, 2, 1, 2, 0])

    def test_looks_count_as_ends(self):
        self.assertEqual(last(props(0), team((SET, 0, 0, 1)), team((LOOK, 0, 0, 1)), SURE), [0, 0, 0, 1, 1, 0])


class WinsTest(unittest.TestCase):
    def test_no_looks(self):
        self.assertEqual(last(WINS), [0, 1])
        self.assertEqual(last(props(0), team((ADD, 0, 0, 1)), team((ADD, 0, 0, 2)), WINS), [0, 2, 0, 1])

    def test_the_least_of_them(self):
        house = [props(0), team((LOOK, 0, 0, 1)), team((ADD, 0, 0, 1)), team((LOOK, 0, 0, 1))]
        self.assertEqual(last(*house, WINS), [0, 2, 1, 0, 2])

    def test_none(self):
        self.assertEqual(last(props(0), team((LOOK, 0, 0, 1)), WINS), [0, 0])

    def test_one_look_that_fails_is_enough(self):
        self.assertEqual(last(props(0), team((LOOK, 0, 0, 0), (LOOK, 0, 0, 1)), team((LOOK, 0, 0, 0)), WINS), [0, 0])


class BruteForceTest(unittest.TestCase):
    def test_all_whole_orders_gone_through(self):
        for model in small_houses() + large_houses():
            told = ask(*model.calls(), COUNTS, SURE, WINS)[-3:]
            self.assertEqual(told, [model.counts(), model.sure(), model.wins()], (model.values, model.teams))

    def test_the_normal_forms_are_the_least_of_their_classes(self):
        for model in small_houses():
            teams = [[Act(*act) for act in acts] for acts in model.teams]
            self.assertEqual(normal_forms(teams), [orders[0] for orders in model.classes()])


class HangTest(unittest.TestCase):
    def test_acts_of_one_team(self):
        house = [props(0, 0), team((LOOK, 0, 0, 0), (LOOK, 1, 0, 0))]
        self.assertEqual(ask(*house, hang(0, 0, 0, 1), hang(0, 1, 0, 0), hang(0, 0, 0, 0))[2:], [[0, 1]] * 3)

    def test_kind_against_kind(self):
        # Each act touches prop 0 alone: only looks leave one another alone.
        acts = [(kind, 0, 0, 1) for kind in range(5)]
        for act in acts:
            for other in acts:
                expected = 0 if act[0] == LOOK and other[0] == LOOK else 1
                self.assertEqual(last(props(0), team(act), team(other), hang(0, 0, 1, 0)), [0, expected])

    def test_what_is_read_and_what_is_written(self):
        for act, other, expected in (
                ((COPY, 0, 1, 0), (COPY, 0, 2, 0), 0), ((COPY, 0, 1, 0), (COPY, 2, 1, 0), 1),
                ((COPY, 0, 1, 0), (COPY, 1, 2, 0), 1), ((COPY, 0, 1, 0), (COPY, 2, 0, 0), 1),
                ((COPY, 0, 1, 0), (LOOK, 0, 1, 0), 0), ((COPY, 0, 1, 0), (LOOK, 1, 0, 0), 1),
                ((EXCHANGE, 0, 1, 0), (EXCHANGE, 2, 3, 0), 0), ((EXCHANGE, 0, 1, 0), (EXCHANGE, 1, 2, 0), 1),
                ((EXCHANGE, 0, 1, 0), (LOOK, 0, 5, 0), 1), ((EXCHANGE, 0, 1, 0), (LOOK, 1, 5, 0), 1),
                ((SET, 0, 1, 0), (LOOK, 1, 0, 0), 0), ((ADD, 0, 1, 0), (LOOK, 1, 0, 0), 0),
                ((SET, 0, 1, 0), (SET, 1, 0, 0), 0), ((SET, 0, 0, 4), (SET, 0, 0, 4), 1)):
            house = [props(0, 0, 0, 0), team(act), team(other)]
            self.assertEqual(ask(*house, hang(0, 0, 1, 0), hang(1, 0, 0, 0))[3:], [[0, expected]] * 2, (act, other))

    def test_as_by_brute_force(self):
        for model in small_houses():
            acts = [(t, i) for t, row in enumerate(model.teams) for i in range(len(row))]
            pairs = [(one, other) for one in acts for other in acts]
            told = ask(*model.calls(), *[hang(*one, *other) for one, other in pairs])
            self.assertEqual(told[1 + len(model.teams):], [[0, int(model.hang(*pair))] for pair in pairs])

    def test_numbers_at_the_ends_of_their_ranges(self):
        house = [props(0), team(*[(LOOK, 0, 0, 0)] * 8), team(), team(), team()]
        self.assertEqual(last(*house, hang(0, 7, 0, 0)), [0, 1])
        self.assertEqual(last(*house, hang(3, 7, 0, 0)), [-3])
        house = [props(0), team(), team(), team(), team(*[(LOOK, 0, 0, 0)] * 8)]
        self.assertEqual(last(*house, hang(3, 7, 3, 0)), [0, 1])

    def test_out_of_range(self):
        house = [props(0), team((LOOK, 0, 0, 0)), team((LOOK, 0, 0, 0))]
        for numbers in ((4, 0, 0, 0), (-1, 0, 0, 0), (0, 8, 0, 0), (0, -1, 0, 0), (0, 0, 4, 0), (0, 0, -1, 0),
                        (0, 0, 0, 8), (0, 0, 0, -1), (10 ** 18, 0, 0, 0), (0, 0, 0, -10 ** 18)):
            self.assertEqual(last(*house, hang(*numbers)), [-1], numbers)

    def test_no_such_team_or_act(self):
        house = [props(0), team((LOOK, 0, 0, 0)), team((LOOK, 0, 0, 0)), team()]
        for numbers in ((3, 0, 0, 0), (0, 0, 3, 0), (0, 1, 0, 0), (0, 0, 0, 1), (0, 0, 1, 1), (1, 1, 0, 0),
                        (2, 0, 0, 0), (0, 0, 2, 0), (0, 7, 1, 7), (3, 7, 3, 7)):
            self.assertEqual(last(*house, hang(*numbers)), [-3], numbers)
        self.assertEqual(last(hang(0, 0, 0, 0)), [-3])

    def test_the_refusal_nearest_to_0(self):
        for numbers in ((3, 0, 4, 0), (4, 0, 3, 0), (0, 7, 0, 8), (0, 8, 0, 7)):
            self.assertEqual(last(hang(*numbers)), [-1], numbers)


if __name__ == "__main__":
    unittest.main()
