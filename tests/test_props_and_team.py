"""The calls props and team."""

import unittest

from helper import ADD, COPY, COUNTS, EXCHANGE, LOOK, SET, ask, last, props, run, team


class PropsTest(unittest.TestCase):
    def test_the_values_are_the_props(self):
        self.assertEqual(ask(props(3, 1, 4), run()), [[0], [0, 3, 1, 4]])

    def test_no_props_at_the_beginning(self):
        self.assertEqual(ask(run()), [[0]])

    def test_no_props_and_six_props(self):
        self.assertEqual(ask(props(), run()), [[0], [0]])
        self.assertEqual(ask(props(0, 9, 0, 9, 0, 9), run()), [[0], [0, 0, 9, 0, 9, 0, 9]])

    def test_later_props_take_the_place_of_earlier_ones(self):
        self.assertEqual(ask(props(1, 2, 3), props(4), run()), [[0], [0], [0, 4]])
        self.assertEqual(ask(props(1, 2, 3), props(), run()), [[0], [0], [0]])

    def test_out_of_range(self):
        for values in ([10], [-1], [0, 0, 10], [-1, 0], [10 ** 18], [-10 ** 18], [0] * 7, [0] * 70):
            self.assertEqual(last(props(*values)), [-1], values)

    def test_teams_already(self):
        self.assertEqual(last(props(1), team((ADD, 0, 0, 1)), props(2)), [-5])
        self.assertEqual(last(team(), props()), [-5])

    def test_out_of_range_comes_before_teams_already(self):
        self.assertEqual(last(team(), props(10)), [-1])
        self.assertEqual(last(team(), props(*[0] * 7)), [-1])


class TeamTest(unittest.TestCase):
    def test_teams_are_numbered_from_0(self):
        self.assertEqual(ask(team(), team(), team(), team()), [[0, 0], [0, 1], [0, 2], [0, 3]])

    def test_acts_at_the_ends_of_their_ranges(self):
        full = props(0, 0, 0, 0, 0, 0)
        for act in ((0, 0, 0, 0), (4, 5, 5, 9), (0, 5, 0, 9), (3, 0, 5, 0), (2, 5, 5, 0)):
            self.assertEqual(last(full, team(act)), [0, 0], act)

    def test_acts_beyond_their_ranges(self):
        full = props(0, 0, 0, 0, 0, 0)
        for act in ((5, 0, 0, 0), (-1, 0, 0, 0), (0, 6, 0, 0), (0, -1, 0, 0), (2, 0, 6, 0), (2, 0, -1, 0),
                    (0, 0, 0, 10), (0, 0, 0, -1), (10 ** 18, 0, 0, 0), (0, 0, 0, -10 ** 18)):
            self.assertEqual(last(full, team(act)), [-1], act)
            self.assertEqual(last(full, team((0, 0, 0, 0), act)), [-1], act)

    def test_what_means_nothing_has_its_range_too(self):
        for kind in (SET, ADD, LOOK):
            self.assertEqual(last(props(0), team((kind, 0, 5, 0))), [0, 0])
            self.assertEqual(last(props(0), team((kind, 0, 6, 0))), [-1])
        for kind in (COPY, EXCHANGE):
            self.assertEqual(last(props(0), team((kind, 0, 0, 9))), [0, 0])
            self.assertEqual(last(props(0), team((kind, 0, 0, 10))), [-1])

    def test_a_length_that_is_not_four_for_each_act(self):
        for length in (1, 2, 3, 5, 6, 7, 33, 70):
            self.assertEqual(last(props(0), [1, length] + [0] * length), [-1], length)

    def test_no_such_prop(self):
        for kind in range(5):
            self.assertEqual(last(team((kind, 0, 0, 0))), [-3], kind)
            self.assertEqual(last(props(0, 0), team((kind, 2, 0, 0))), [-3], kind)
            self.assertEqual(last(props(0, 0), team((kind, 1, 0, 0))), [0, 0], kind)
        for kind in (COPY, EXCHANGE):
            self.assertEqual(last(props(0, 0), team((kind, 0, 2, 0))), [-3], kind)
            self.assertEqual(last(props(0, 0), team((kind, 0, 1, 0))), [0, 0], kind)

    def test_no_such_prop_in_a_later_act(self):
        self.assertEqual(last(props(0), team((ADD, 0, 0, 1), (ADD, 1, 0, 1))), [-3])

    def test_a_fifth_team(self):
        self.assertEqual(last(team(), team(), team(), team(), team()), [-4])

    def test_eight_acts_together(self):
        act = (ADD, 0, 0, 1)
        self.assertEqual(last(props(0), team(*[act] * 8)), [0, 0])
        self.assertEqual(last(props(0), team(*[act] * 9)), [-4])
        self.assertEqual(last(props(0), team(*[act] * 17)), [-4])
        self.assertEqual(last(props(0), team(*[act] * 5), team(*[act] * 3)), [0, 1])
        self.assertEqual(last(props(0), team(*[act] * 5), team(*[act] * 4)), [-4])
        self.assertEqual(last(props(0), team(*[act] * 8), team()), [0, 1])
        self.assertEqual(last(props(0), team(*[act] * 8), team(act)), [-4])

    def test_the_refusal_nearest_to_0(self):
        four = [team(), team(), team(), team()]
        self.assertEqual(last(*four, team((0, 0, 0, 10))), [-1])
        self.assertEqual(last(*four, [1, 1, 0]), [-1])
        self.assertEqual(last(*four, team((0, 0, 0, 0))), [-3])
        self.assertEqual(last(props(0), team(*[(0, 0, 0, 0)] * 9 + [(0, 1, 0, 0)])), [-3])
        self.assertEqual(last(team((0, 0, 0, 0), (0, 0, 0, 10))), [-1])

    def test_a_team_without_acts_has_one_order(self):
        self.assertEqual(last(team(), COUNTS), [0, 1, 1, 1])


if __name__ == "__main__":
    unittest.main()
