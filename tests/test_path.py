"""The calls path, forbidden, fits and sizes."""

import itertools
import random
import unittest

from helper import (ADD, COUNTS, FORBIDDEN, LOOK, PRICES, RATE, SIZES, PathModel, all_paths, ask, fits, flat, last,
                    most, path, proves, props, some_paths, team)

WITHOUT_PATH = [FORBIDDEN, most(0), most(30), fits(), fits(0, 5), RATE, PRICES, proves(1, 1, 0), proves(0, 0)]


class PathTest(unittest.TestCase):
    def test_the_length(self):
        for rooms, length in (([(0, 1)], 1), ([(9, 7)], 7), ([(0, 1)] * 7, 7), ([(3, 2), (4, 3), (3, 2)], 7),
                              ([(0, 1), (1, 2)], 3), ([(room, 1) for room in range(7)], 7)):
            self.assertEqual(last(path(*rooms)), [0, length], rooms)

    def test_one_longer_than_seven(self):
        for rooms in ([(0, 7), (0, 1)], [(0, 1)] * 8, [(0, 4), (1, 4)], [(9, 7), (9, 7)], [(0, 1)] * 35, [(0, 7)] * 35):
            self.assertEqual(last(path(*rooms)), [-9], rooms)

    def test_lengths_that_are_not_told(self):
        for numbers in ([], [0], [0, 1, 0], [0, 1, 1, 1, 2], [1] * 13, [1] * 69):
            self.assertEqual(last([12, len(numbers)] + numbers), [-1], numbers)

    def test_out_of_range(self):
        for rooms in ([(10, 1)], [(-1, 1)], [(0, 0)], [(0, 8)], [(0, -1)], [(0, 1), (10, 1)], [(0, 1), (0, 0)],
                      [(10 ** 18, 1)], [(0, 10 ** 18)], [(-10 ** 18, 1)], [(0, -10 ** 18)]):
            self.assertEqual(last(path(*rooms)), [-1], rooms)

    def test_the_refusal_nearest_to_0(self):
        for rooms in ([(0, 7), (10, 7)], [(0, 7), (1, 0)], [(0, 8)], [(0, 7), (0, 8)]):
            self.assertEqual(last(path(*rooms)), [-1], rooms)
        self.assertEqual(last([12, 5, 0, 7, 0, 7, 0]), [-1])

    def test_a_later_path_takes_the_place_of_an_earlier_one(self):
        self.assertEqual(ask(path((0, 3)), FORBIDDEN, path((0, 1), (1, 1)), FORBIDDEN, path((5, 2)), FORBIDDEN),
                         [[0, 3], [0, 1, 2], [0, 2], [0], [0, 2], [0, 1]])

    def test_no_path(self):
        for call in WITHOUT_PATH:
            self.assertEqual(last(call), [-2], call)
            self.assertEqual(last(props(0), team(), COUNTS, call), [-2], call)

    def test_no_path_after_refused_ones(self):
        for call in WITHOUT_PATH:
            self.assertEqual(ask(path((0, 8)), path((0, 7), (0, 1)), path(), call), [[-1], [-9], [-1], [-2]])

    def test_out_of_range_comes_before_no_path(self):
        for call in (most(-1), most(31), fits(-1), fits(1001), fits(*[0] * 41), proves(-1, 1), proves(1, 1001),
                     proves(1001, 1), proves(1, -1), proves(1, 1, *[0] * 65), proves(1, 1, 1000001)):
            self.assertEqual(last(call), [-1], call)

    def test_a_path_at_any_time(self):
        house = [props(0), team((ADD, 0, 0, 1)), team((LOOK, 0, 0, 1))]
        self.assertEqual(ask(*house, path((0, 2)), COUNTS, FORBIDDEN)[3:], [[0, 2], [0, 2, 2, 2], [0, 1]])


class ForbiddenTest(unittest.TestCase):
    def test_paths_written_out(self):
        for rooms, told in (([(0, 1)], []), ([(0, 1), (1, 1)], []), ([(room, 1) for room in range(7)], []),
                            ([(4, 7)], [1, 2, 3, 4, 5, 6]), ([(4, 1)] * 7, [1, 2, 3, 4, 5, 6]),
                            ([(0, 1), (1, 1), (0, 1)], [2]), ([(0, 2), (1, 3)], [1, 2]),
                            ([(0, 1), (1, 5), (0, 1)], [1, 2, 3, 4, 6]), ([(0, 2), (1, 3), (0, 2)], [1, 2, 4, 5, 6]),
                            ([(0, 1), (1, 1), (2, 1), (0, 1), (3, 1), (4, 1), (0, 1)], [3, 6]),
                            ([(9, 1), (0, 1), (9, 1), (0, 1), (9, 1), (0, 1), (9, 1)], [2, 4, 6])):
            self.assertEqual(last(path(*rooms), FORBIDDEN), [0] + told, rooms)

    def test_all_paths(self):
        for length in range(1, 8):
            for model in all_paths(length):
                self.assertEqual(ask(path(*model.rooms), FORBIDDEN), [[0, length], [0] + model.forbidden()],
                                 model.rooms)

    def test_a_stay_may_be_told_in_parts(self):
        for model in some_paths():
            parts = flat([[(room, 1)] * stay for room, stay in model.rooms])
            self.assertEqual(last(path(*parts), FORBIDDEN), last(path(*model.rooms), FORBIDDEN))

    def test_which_rooms_they_are_does_not_matter(self):
        for model in some_paths():
            renamed = [(9 - room, stay) for room, stay in model.rooms]
            self.assertEqual(last(path(*renamed), FORBIDDEN), last(path(*model.rooms), FORBIDDEN))


class FitsTest(unittest.TestCase):
    def test_written_out(self):
        calls = [path((0, 1), (1, 1), (0, 1)), fits(0, 1), fits(0, 2), fits(0, 3), fits(2, 0), fits(7, 3, 5), fits(),
                 fits(4), fits(0, 1, 4, 5), fits(5, 4, 1, 0), fits(0, 1, 4, 5, 7)]
        self.assertEqual([answer[1] for answer in ask(*calls)[1:]], [1, 0, 1, 0, 0, 1, 1, 1, 1, 0])

    def test_times_that_stand_twice(self):
        calls = [path((0, 3)), fits(5, 5), fits(5, 5, 8, 8), fits(5, 5, 7, 7), fits(*[6] * 40)]
        self.assertEqual(ask(*calls)[1:], [[0, 1], [0, 1], [0, 0], [0, 1]])

    def test_ends_of_the_ranges(self):
        calls = [path((0, 7)), fits(0, 1000), fits(1000, 994), fits(1000, 993), fits(*range(0, 280, 7)),
                 fits(*range(0, 273, 7), 279)]
        self.assertEqual(ask(*calls)[1:], [[0, 1], [0, 0], [0, 1], [0, 1], [0, 1]])
        self.assertEqual(last(path((0, 7)), fits(*range(0, 273, 7), 272)), [0, 0])

    def test_out_of_range(self):
        for times in ([-1], [1001], [0, 1001], [5, -1, 5], [10 ** 18], [-10 ** 18], [0] * 41, range(41), [0] * 70):
            self.assertEqual(last(path((0, 1)), fits(*times)), [-1], times)

    def test_all_pairs_of_times(self):
        for model in some_paths():
            for begin in (0, 3):
                pairs = [(begin, begin + difference) for difference in range(0, 10)]
                pairs = pairs + [(other, one) for one, other in pairs]
                told = ask(path(*model.rooms), *[fits(*pair) for pair in pairs])[1:]
                self.assertEqual(told, [[0, int(model.fits(pair))] for pair in pairs], model.rooms)

    def test_drawn_times(self):
        dice = random.Random(15)
        seen = set()
        for model in some_paths():
            rows = [[dice.randrange(size * 8) for _ in range(size)] for size in (2, 3, 3, 4, 5, 6, 8, 12)]
            told = ask(path(*model.rooms), *[fits(*row) for row in rows])[1:]
            self.assertEqual(told, [[0, int(model.fits(row))] for row in rows], model.rooms)
            seen.update(answer[1] for answer in told)
        self.assertEqual(seen, {0, 1})

    def test_without_forbidden_differences_all_fit(self):
        self.assertEqual(last(path((0, 1), (1, 1)), fits(*range(40))), [0, 1])
        self.assertEqual(last(path((0, 1)), fits(*range(40))), [0, 1])


class SizesTest(unittest.TestCase):
    def test_at_the_beginning(self):
        self.assertEqual(last(SIZES), [0, 0, 0, 0, 0])

    def test_each_by_itself(self):
        self.assertEqual(last(props(1, 2, 3), SIZES), [0, 3, 0, 0, 0])
        self.assertEqual(last(team(), team(), SIZES), [0, 0, 2, 0, 0])
        self.assertEqual(last(path((0, 2), (1, 3)), SIZES), [0, 0, 0, 0, 2])

    def test_all(self):
        house = [props(0, 0), team((ADD, 0, 0, 1), (ADD, 1, 0, 1)), team(), team((LOOK, 0, 0, 1))]
        self.assertEqual(last(*house, path((3, 1)), SIZES), [0, 2, 3, 3, 1])

    def test_most_of_each(self):
        teams = [team((ADD, 5, 0, 1), (ADD, 1, 0, 1))] * 4
        self.assertEqual(last(props(*[0] * 6), *teams, path(*[(0, 1)] * 7), SIZES), [0, 6, 4, 8, 7])

    def test_a_room_that_comes_again_counts_again(self):
        self.assertEqual(last(path((0, 1), (1, 1), (0, 1)), SIZES), [0, 0, 0, 0, 3])
        self.assertEqual(last(path((0, 1), (0, 1)), SIZES), [0, 0, 0, 0, 2])

    def test_what_is_refused_is_not_counted(self):
        told = ask(props(0), props(10), team((ADD, 0, 0, 1)), props(1, 2), team((ADD, 1, 0, 1)), path((0, 2)),
                   path((0, 7), (1, 1)), path((0, 8)), SIZES)
        self.assertEqual(told[-1], [0, 1, 1, 1, 1])

    def test_later_props_and_paths_take_the_place_of_earlier_ones(self):
        self.assertEqual(last(props(1, 2), props(3), path((0, 1), (1, 1)), path((0, 1)), SIZES), [0, 1, 0, 0, 1])


class BruteForceTest(unittest.TestCase):
    """The brute force itself, at a path that is gone through by hand."""

    def test_where_a_team_is(self):
        model = PathModel([(4, 2), (6, 1)])
        self.assertEqual([model.room(3, time) for time in range(2, 8)], [None, 4, 4, 6, None, None])

    def test_all_ways_to_share_rooms(self):
        self.assertEqual([len(all_paths(length)) for length in range(1, 8)], [1, 2, 5, 15, 52, 203, 877])

    def test_meeting_is_the_same_at_any_time(self):
        for model in some_paths()[:20]:
            for begin, other in itertools.product(range(5), repeat=2):
                self.assertEqual(model.meet(begin, other), begin == other or abs(begin - other) in model.forbidden())


if __name__ == "__main__":
    unittest.main()
