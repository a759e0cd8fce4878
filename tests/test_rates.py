"""The calls rate, prices and proves, and promise 4: what is proved holds, and the best rate is kept for ever."""

import fractions
import random
import unittest

from helper import (PRICES, RATE, PathModel, all_paths, ask, fits, last, path, proves, some_paths)
from teamsatonce.masks import masks_row
from teamsatonce.paths import Path

SEVEN_ROOMS = path(*[(room, 1) for room in range(7)])


def flat_rooms(model):
    return [number for pair in model.rooms for number in pair]


def told_rate(model):
    run = model.long_run()
    return [0, run.best.numerator, run.best.denominator, len(run.row)]


class RateTest(unittest.TestCase):
    def test_written_out(self):
        for rooms, told in (([(0, 1)], [1, 1, 1]), ([(0, 1), (1, 1)], [1, 1, 2]), ([(0, 2)], [1, 2, 2]),
                            ([(0, 7)], [1, 7, 7]), ([(0, 1)] * 7, [1, 7, 7]), ([(0, 2), (1, 3)], [1, 3, 6]),
                            ([(0, 1), (1, 1), (0, 1)], [1, 2, 4]), ([(room, 1) for room in range(7)], [1, 1, 64])):
            self.assertEqual(last(path(*rooms), RATE), [0] + told, rooms)

    def test_all_paths(self):
        for length in range(1, 8):
            for model in all_paths(length):
                self.assertEqual(last(path(*model.rooms), RATE), told_rate(model), model.rooms)

    def test_rates_other_than_one_team_in_some_times_in_lowest_terms(self):
        rates = {model.long_run().best for model in some_paths()}
        self.assertIn(fractions.Fraction(1, 2), rates)
        self.assertTrue(any(rate.numerator > 1 for rate in rates))

    def test_the_masks_row(self):
        for model in some_paths():
            self.assertEqual(masks_row(Path(flat_rooms(model))), model.long_run().row, model.rooms)

    def test_a_masks_row_written_out(self):
        self.assertEqual(masks_row(Path([0, 1])), [0])
        self.assertEqual(masks_row(Path([0, 2, 1, 3])), [0, 1, 2, 4, 9, 8])
        self.assertEqual(masks_row(Path([0, 1, 1, 1, 0, 1])), [0, 1, 3, 2])
        self.assertEqual(masks_row(Path([0, 1, 1, 1, 2, 1])), [0, 1, 3, 2])
        self.assertEqual(masks_row(Path([5, 4])), [0, 1, 2, 4])


class PricesTest(unittest.TestCase):
    def test_written_out(self):
        # One room with the stay 3, so 1 / 3, and the masks 0, 1, 2: from 0 a beginning gains 2.
        self.assertEqual(last(path((0, 3)), PRICES), [0, 2, 0, 1])
        self.assertEqual(last(path((0, 1)), PRICES), [0, 0])
        self.assertEqual(last(path((0, 2), (1, 3)), PRICES), [0, 2, 0, 1, 2, 0, 2])
        self.assertEqual(last(SEVEN_ROOMS, PRICES), [0] + [0] * 64)

    def test_all_paths(self):
        for length in range(1, 8):
            for model in all_paths(length):
                self.assertEqual(last(path(*model.rooms), PRICES), [0] + model.long_run().prices, model.rooms)


class ProvesTest(unittest.TestCase):
    def test_written_out(self):
        calls = [path((0, 3)), proves(1, 3, 2, 0, 1), proves(1, 3, 3, 1, 2), proves(1, 3, 2, 0, 0),
                 proves(1, 3, 1, 0, 1), proves(1, 3, 2, 1, 1), proves(1, 2, 2, 0, 1), proves(1, 2, 1, 0, 0),
                 proves(1, 4, 2, 0, 1), proves(2, 6, 4, 0, 2), proves(1, 3, -5, -7, -6), proves(0, 3, 2, 0, 1)]
        self.assertEqual([answer[1] for answer in ask(*calls)[1:]], [1, 1, 0, 0, 0, 1, 1, 0, 1, 1, 0])

    def test_no_times(self):
        for model in some_paths()[:30]:
            masks = len(model.long_run().row)
            calls = [proves(n, 0, *[price] * masks) for n in (0, 1, 1000) for price in (0, 5)] + [proves(0, 0)]
            self.assertEqual(ask(path(*model.rooms), *calls)[1:], [[0, 0]] * len(calls))

    def test_as_many_prices_as_masks(self):
        for model in some_paths():
            masks = len(model.long_run().row)
            calls = [proves(1, 1, *[0] * count) for count in range(65) if abs(count - masks) < 3 or count in (0, 64)]
            told = ask(path(*model.rooms), *calls)[1:]
            self.assertEqual(told, [[0, int(call[3] == masks)] for call in calls], model.rooms)

    def test_a_path_of_length_1(self):
        calls = [path((0, 1)), proves(1, 1, 0), proves(1, 1, -1000000), proves(1000, 1000, 1000000),
                 proves(999, 1000, 0), proves(1000, 999, 0), proves(1, 1), proves(1, 1, 0, 0), proves(0, 1, 0)]
        self.assertEqual([answer[1] for answer in ask(*calls)[1:]], [1, 1, 1, 0, 1, 0, 0, 0])

    def test_ends_of_the_ranges(self):
        ends = [1000000, -1000000] * 32
        self.assertEqual(ask(SEVEN_ROOMS, proves(1000, 1000, *[1000000] * 64), proves(1000, 1, *[-1000000] * 64),
                             proves(0, 1000, *[0] * 64), proves(1000, 1, *ends))[1:], [[0, 1], [0, 1], [0, 0], [0, 0]])

    def test_out_of_range(self):
        for call in (proves(-1, 1, 0), proves(1001, 1, 0), proves(1, -1, 0), proves(1, 1001, 0), proves(1, 1, 1000001),
                     proves(1, 1, -1000001), proves(1, 1, 0, 1000001), proves(10 ** 18, 1, 0), proves(1, -10 ** 18, 0),
                     proves(1, 1, 10 ** 18), proves(1, 1, -10 ** 18), proves(1, 1, *[0] * 65), proves(0, 0, *[0] * 70),
                     proves(-1, 0), proves(1001, 0)):
            self.assertEqual(last(path((0, 1)), call), [-1], call)
            self.assertEqual(last(call), [-1], call)

    def test_told_prices_changed_a_little(self):
        dice = random.Random(18)
        seen = set()
        for model in some_paths():
            run = model.long_run()
            tries = []
            for _ in range(12):
                prices = list(run.prices)
                prices[dice.randrange(len(prices))] += dice.choice((-1, 1, 2))
                tries.append((run.best.numerator, run.best.denominator, prices))
            for _ in range(12):
                prices = [dice.randint(-3, 6) for mask in run.row]
                tries.append((dice.randint(0, 4), dice.randint(1, 6), prices))
            told = ask(path(*model.rooms), *[proves(n, d, *prices) for n, d, prices in tries])[1:]
            self.assertEqual(told, [[0, int(run.prove(*each))] for each in tries], model.rooms)
            seen.update(answer[1] for answer in told)
        self.assertEqual(seen, {0, 1})


class PromiseTest(unittest.TestCase):
    def test_the_told_prices_are_accepted_for_the_best_rate(self):
        for model in some_paths():
            rate, prices = ask(path(*model.rooms), RATE, PRICES)[1:]
            n, d, masks = rate[1:]
            self.assertEqual(len(prices) - 1, masks)
            self.assertEqual(last(path(*model.rooms), proves(n, d, *prices[1:])), [0, 1], model.rooms)
            self.assertEqual(last(path(*model.rooms), proves(2 * n, 2 * d, *[2 * p for p in prices[1:]])), [0, 1])

    def test_no_prices_are_accepted_for_a_lesser_rate(self):
        dice = random.Random(4)
        for model in some_paths():
            rate, prices = ask(path(*model.rooms), RATE, PRICES)[1:]
            best = fractions.Fraction(rate[1], rate[2])
            lesser = [(n, d) for d in (1, 2, 3, 5, 8, 13) for n in range(d) if fractions.Fraction(n, d) < best]
            lesser = lesser[:12] + [(1000 * rate[1] // rate[2] - 1, 1000), (0, 1)]
            calls = []
            for n, d in lesser:
                calls.append(proves(n, d, *prices[1:]))
                calls.append(proves(n, d, *[d * price for price in prices[1:]]))
                calls.append(proves(n, d, *settled(model, n, d)))
                calls.append(proves(n, d, *[dice.randint(-9, 9) for price in prices[1:]]))
            told = ask(path(*model.rooms), *calls)[1:]
            self.assertEqual(told, [[0, 0]] * len(calls), model.rooms)

    def test_what_prices_prove_is_not_less_than_what_was_found(self):
        # Accepted prices for a rate must leave no timetable above it: those of a greater rate do.
        for model in some_paths():
            best = model.long_run().best
            for n, d in ((1, 1), (1, 2), (1, 3), (2, 3), (2, 5), (3, 7), (1, 4)):
                told = last(path(*model.rooms), proves(n, d, *settled(model, n, d)))
                self.assertEqual(told, [0, int(fractions.Fraction(n, d) >= best)], (model.rooms, n, d))

    def test_some_way_that_comes_back_has_the_best_rate(self):
        for model in some_paths():
            n, d = last(path(*model.rooms), RATE)[1:3]
            run = model.long_run()
            self.assertTrue(any(begun * d == times * n for start in run.row for times, begun in run.returns(start)))

    def test_a_timetable_keeps_the_best_rate(self):
        for model in some_paths():
            n, d = last(path(*model.rooms), RATE)[1:3]
            begun, times = a_round(model, fractions.Fraction(n, d))
            self.assertEqual(fractions.Fraction(len(begun), times), fractions.Fraction(n, d))
            rounds = max(2, min(40 // len(begun), 1000 // times))
            timetable = [turn * times + time for turn in range(rounds) for time in begun][:40]
            self.assertTrue(model.fits(timetable), model.rooms)
            self.assertEqual(last(path(*model.rooms), fits(*timetable)), [0, 1], model.rooms)


def settled(model, n, d):
    """Prices for the rate, made as the told ones are; they prove it if any do."""
    run = model.long_run()
    prices = {mask: 0 for mask in run.row}
    for _ in run.row:
        prices = {mask: max([0] + [d * begins - n + prices[new] for begins, new in run.ways(mask)])
                  for mask in run.row}
    return [prices[mask] for mask in run.row]


def a_round(model, rate):
    """A way in the masks that comes back with this rate: at which of its times teams begin, and how many it has."""
    run = model.long_run()
    for start in run.row:
        reached = {start: ()}
        for times in range(1, len(run.row) + 1):
            after = {}
            for mask, begun in reached.items():
                for begins, new in run.ways(mask):
                    longer = begun + (times - 1,) * begins
                    if new not in after or len(longer) > len(after[new]):
                        after[new] = longer
            reached = after
            if start in reached and fractions.Fraction(len(reached[start]), times) == rate:
                return reached[start], times
    raise AssertionError("no way comes back with this rate")


class BruteForceTest(unittest.TestCase):
    """The brute force itself, at a path that is gone through by hand."""

    def test_one_room_with_the_stay_3(self):
        run = PathModel([(0, 3)]).long_run()
        self.assertEqual(run.row, [0, 1, 2])
        self.assertEqual([run.ways(mask) for mask in run.row], [[(1, 1), (0, 0)], [(0, 2)], [(0, 0)]])
        self.assertEqual(run.best, fractions.Fraction(1, 3))
        self.assertEqual(run.prices, [2, 0, 1])


if __name__ == "__main__":
    unittest.main()
