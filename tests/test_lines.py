"""Whole lists of calls 0 to 19 mixed, of up to 60 calls, against the document's words gone through call by call."""

import collections
import random
import unittest

from helper import Line, NUMBER_RANGES, ROW_SHAPES, row, taken_apart
from teamsatonce.house import answers

ROWS_OF = {number: 2 if number == 3 else 1 if number in ROW_SHAPES else 0 for number in range(20)}
WRONG = (-10 ** 18, -1, 10 ** 18, 1000001)
# The calls behind the first ones; those with many refusals stand there more than once.
LATER_CALLS = tuple(range(20)) + (1, 10, 11, 11, 12, 14, 15, 18)
# How many acts a drawn team has: mostly so few that all orders of a house can be gone through for each call.
ACTS_OF_A_TEAM = (0, 1, 1, 1, 2, 2)


def flat_call(number, numbers, rows):
    return [number] + list(numbers) + [given for each in rows for given in row(each)]


def drawn_number(dice, low, high):
    """Mostly within the range, often at its ends, now and then just beyond."""
    return dice.choice([low, high, low - 1, high + 1] + [dice.randint(low, min(high, low + 12))] * 16)


class Drawing:
    """Calls drawn by a fixed seed, such that most of them are not refused."""

    def __init__(self, seed):
        self.dice = random.Random(seed)
        self.line = Line()

    def call(self, number):
        numbers = [drawn_number(self.dice, low, high) for low, high in NUMBER_RANGES.get(number, [])]
        acts = self.line.acts_there()
        if acts and self.dice.random() < 0.8:
            if number in (9, 10):
                numbers = [given for _ in range(len(numbers) // 2) for given in self.dice.choice(acts)]
            elif number == 11:
                numbers = [self.dice.randrange(len(acts))]
        rows = [self.drawn_row(number) for _ in range(ROWS_OF[number])]
        if number == 18 and self.line.path is not None and self.dice.random() < 0.7:
            numbers, rows = self.drawn_proof()
        if rows and self.dice.random() < 0.05:
            self.spoil(rows)
        return number, numbers, rows

    def spoil(self, rows):
        spoilt = self.dice.choice(rows)
        spoilt.insert(self.dice.randint(0, len(spoilt)), self.dice.choice(WRONG + (0, 1)))
        if self.dice.random() < 0.3:
            spoilt.extend([0] * (70 - len(spoilt)))

    def drawn_row(self, number):
        dice = self.dice
        if number == 0:
            return [dice.randint(0, 9) for _ in range(dice.randint(0, 6))]
        if number == 1:
            size = dice.choice([len(self.line.house.values) or 1] * 9 + [6])
            acts = [(dice.randint(0, 4), dice.randrange(size), dice.randrange(size), dice.choice((0, 1, 9)))
                    for _ in range(dice.choice(ACTS_OF_A_TEAM if dice.random() < 0.95 else (8, 9)))]
            return [given for act in acts for given in act]
        if number == 12:
            rooms = [(dice.randint(0, 3), dice.choice((1, 1, 1, 2, 3))) for _ in range(dice.randint(0, 5))]
            return [given for room in rooms for given in room]
        if number == 15:
            return [dice.randint(0, 40) for _ in range(dice.choice((0, 1, 2, 3, 4, 5, 40, 41)))]
        if number == 18:
            return [dice.randint(-5, 5) for _ in range(dice.choice((0, 1, 2, 6, 64, 65)))]
        order = [t for t, i in self.line.acts_there()]
        dice.shuffle(order)
        return order if dice.random() < 0.85 else order[1:]

    def drawn_proof(self):
        run = self.line.path.long_run()
        prices = list(run.prices)
        if self.dice.random() < 0.3:
            prices[self.dice.randrange(len(prices))] -= 1
        return [run.best.numerator, self.dice.choice((0, run.best.denominator, run.best.denominator))], [prices]

    def calls(self):
        """Up to 60 calls, and what the document asks for each. In most lists the first ones make a house."""
        size = self.dice.choice((1, 5, 30, 60, 60))
        first = [0] + [1] * self.dice.randint(0, 4) if self.dice.random() < 0.8 else []
        later = [self.dice.choice(LATER_CALLS) for _ in range(size)]
        calls, told = [], []
        for number in (first + later)[:size]:
            call = self.call(number)
            calls.append(call)
            told.append(self.line.answer(*call))
        return calls, told


class LinesTest(unittest.TestCase):
    @classmethod
    def setUpClass(cls):
        cls.lines = [Drawing(seed).calls() for seed in range(300)]

    def test_as_by_the_documents_words(self):
        for calls, told in self.lines:
            given = [number for call in calls for number in flat_call(*call)]
            for call, answer, expected in zip(calls, taken_apart(answers(given)), told, strict=True):
                self.assertEqual(answer, expected, (call, calls))

    def test_the_list_stays_the_same_and_a_second_time_gives_the_same(self):
        for calls, told in self.lines:
            given = [number for call in calls for number in flat_call(*call)]
            before = list(given)
            first = answers(given)
            self.assertEqual(given, before)
            self.assertEqual(answers(given), first)
            self.assertEqual(given, before)

    def test_without_the_refused_calls_the_others_answer_the_same(self):
        for calls, told in self.lines:
            kept = [(call, answer) for call, answer in zip(calls, told) if answer[0] == 0]
            given = [number for call, answer in kept for number in flat_call(*call)]
            self.assertEqual(taken_apart(answers(given)), [answer for call, answer in kept])

    def test_every_call_is_answered_and_every_refusal_is_due_somewhere(self):
        seen = collections.defaultdict(set)
        for calls, told in self.lines:
            for (number, numbers, rows), answer in zip(calls, told):
                seen[number].add(answer[0])
        self.assertEqual(dict(seen), {
            0: {0, -1, -5}, 1: {0, -1, -3, -4}, 2: {0, -1, -6}, 3: {0, -1, -6}, 4: {0, -1, -6}, 5: {0, -1, -6},
            6: {0}, 7: {0}, 8: {0}, 9: {0, -1, -3}, 10: {0, -1, -3}, 11: {0, -1, -6, -7, -8}, 12: {0, -1, -9},
            13: {0, -2}, 14: {0, -1, -2}, 15: {0, -1, -2}, 16: {0, -2}, 17: {0, -2}, 18: {0, -1, -2}, 19: {0}})


if __name__ == "__main__":
    unittest.main()
