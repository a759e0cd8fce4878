"""The call most, and promise 3: the told timetable fits, and none within the time has more teams."""

import itertools
import unittest

from helper import all_paths, ask, fits, last, most, path, some_paths


class MostTest(unittest.TestCase):
    def test_written_out(self):
        there_and_back = [(0, 1), (1, 1), (0, 1)]
        for rooms, h, times in (([(0, 3)], 8, [0, 3, 6]), ([(0, 3)], 9, [0, 3, 6, 9]),
                                ([(0, 7)], 30, [0, 7, 14, 21, 28]), (there_and_back, 7, [0, 1, 4, 5]),
                                (there_and_back, 6, [0, 1, 4, 5]), (there_and_back, 4, [0, 1, 4])):
            self.assertEqual(last(path(*rooms), most(h)), [0, len(times)] + times, (rooms, h))

    def test_beginning_as_early_as_may_be_is_not_always_the_most(self):
        # 1, 4 and 5 are forbidden: who begins at 0 and at 2 has to wait until 8 for a third.
        self.assertEqual(last(path((0, 2), (1, 2), (2, 1), (0, 1)), most(6)), [0, 3, 0, 3, 6])
        self.assertEqual(last(path((0, 2), (1, 2), (2, 2), (0, 1)), most(10)), [0, 4, 0, 3, 7, 10])

    def test_h_0(self):
        for model in some_paths():
            self.assertEqual(last(path(*model.rooms), most(0)), [0, 1, 0])

    def test_a_path_of_length_1(self):
        told = ask(path((5, 1)), *[most(h) for h in range(31)])[1:]
        self.assertEqual(told, [[0, h + 1] + list(range(h + 1)) for h in range(31)])

    def test_no_forbidden_differences(self):
        self.assertEqual(last(path(*[(room, 1) for room in range(7)]), most(30)), [0, 31] + list(range(31)))

    def test_out_of_range(self):
        for h in (-1, 31, 10 ** 18, -10 ** 18):
            self.assertEqual(last(path((0, 1)), most(h)), [-1], h)

    def test_nothing_changes(self):
        self.assertEqual(ask(path((0, 2)), most(3), most(1), most(3))[1:], [[0, 2, 0, 2], [0, 1, 0], [0, 2, 0, 2]])


class PromiseTest(unittest.TestCase):
    def test_against_all_timetables(self):
        for model in some_paths():
            told = ask(path(*model.rooms), *[most(h) for h in range(10)])[1:]
            for h, answer in enumerate(told):
                times = model.most(h)
                self.assertEqual(answer, [0, len(times)] + times, (model.rooms, h))

    def test_every_h(self):
        for model in some_paths():
            told = ask(path(*model.rooms), *[most(h) for h in range(31)])[1:]
            for h, answer in enumerate(told):
                times = model.long_run().most(h)
                self.assertEqual(answer, [0, len(times)] + times, (model.rooms, h))

    def test_the_told_timetable_fits(self):
        for model in some_paths():
            for h in (5, 17, 30):
                times = last(path(*model.rooms), most(h))[2:]
                self.assertEqual(times, sorted(set(times)))
                self.assertTrue(set(times) <= set(range(h + 1)))
                self.assertTrue(model.fits(times), model.rooms)
                self.assertEqual(last(path(*model.rooms), fits(*times)), [0, 1])

    def test_it_is_the_forbidden_differences_alone_that_count(self):
        for length in range(1, 6):
            told = {}
            for model in all_paths(length):
                told.setdefault(tuple(model.forbidden()), []).append(last(path(*model.rooms), most(11)))
            for answers in told.values():
                self.assertEqual(answers, answers[:1] * len(answers))

    def test_one_more_team_never_fits(self):
        for model in some_paths():
            count = last(path(*model.rooms), most(7))[1]
            more = itertools.combinations(range(8), count + 1)
            self.assertFalse(any(model.fits(times) for times in more), model.rooms)


if __name__ == "__main__":
    unittest.main()
