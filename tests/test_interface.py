"""The interface: one list in, one list out, nothing changed, kept or printed."""

import contextlib
import io
import unittest

from helper import (ADD, COUNTS, FORBIDDEN, LOOK, PRICES, RATE, SET, SIZES, SURE, WINS, alike, fits, flat, hang,
                    levels, most, normal, path, props, proves, run, sets, swap, team)
from teamsatonce.house import answers
from teamsatonce.reading import UnknownCall

CALLS = flat([props(0, 5), team((ADD, 0, 0, 3), (LOOK, 1, 0, 5)), team((SET, 1, 0, 1)), run(0, 1, 0), run(9),
              alike([0, 0, 1], [0, 1, 0]), normal(1, 0, 0), levels(0, 1, 0), COUNTS, SURE, WINS, hang(0, 1, 1, 0),
              hang(0, 2, 1, 0), RATE, sets(0, 0), swap(0, 0, 1, 0), swap(1, 0, 1, 0), path((0, 2), (4, 1)), FORBIDDEN,
              most(5), fits(8, 2, 4), fits(2, 3), RATE, PRICES, proves(1, 2, 1, 0, 1), proves(1, 3, 1, 0, 1), SIZES])
TOLD = [1, 0, 2, 0, 0, 2, 0, 1, 6, 0, 3, 1, 1, 0, 0, 1, -1, 2, 0, 0, 4, 0, 0, 1, 0, 4, 0, 1, 1, 2, 4, 0, 3, 2, 2,
        8, 0, 0, 0, 0, 1, 0, 1, 0, 5, 0, 1, 0, 0, 1, 2, 0, 1, 1, -3,
        1, -2, 4, 0, 1, 0, 0, 4, 0, 1, 0, 0, 1, -8, 2, 0, 3, 2, 0, 1, 5, 0, 3, 0, 2, 4, 2, 0, 1, 2, 0, 0, 4, 0, 1, 2, 3,
        4, 0, 1, 0, 1, 2, 0, 1, 2, 0, 0, 5, 0, 2, 2, 3, 2]


class Watched(list):
    """A list that says if it is changed, even for a while."""

    def changed(self, *numbers):
        raise AssertionError("the list handed in is changed")

    append = extend = insert = pop = remove = clear = sort = reverse = changed
    __setitem__ = __delitem__ = __iadd__ = __imul__ = changed


class InterfaceTest(unittest.TestCase):
    def test_a_list_of_answers_each_with_its_count(self):
        self.assertEqual(answers(list(CALLS)), TOLD)

    def test_plain_whole_numbers_in_a_plain_list(self):
        told = answers(list(CALLS))
        self.assertIs(type(told), list)
        self.assertEqual({type(number) for number in told}, {int})

    def test_the_list_handed_in_stays_the_same(self):
        calls = list(CALLS)
        answers(calls)
        self.assertEqual(calls, CALLS)
        self.assertEqual(answers(Watched(CALLS)), TOLD)

    def test_a_second_time_gives_the_same(self):
        calls = list(CALLS)
        first = answers(calls)
        self.assertEqual(answers(calls), first)
        self.assertIsNot(answers(calls), first)

    def test_what_is_given_back_may_be_changed(self):
        answers(list(CALLS)).clear()
        self.assertEqual(answers(list(CALLS)), TOLD)

    def test_nothing_is_kept_from_one_list_to_the_next(self):
        answers(flat([props(1, 2, 3), team((ADD, 0, 0, 1))]))
        self.assertEqual(answers(flat([run(), COUNTS, props(4), run()])), [1, 0, 4, 0, 1, 1, 1, 1, 0, 2, 0, 4])
        answers(flat([path((0, 3)), FORBIDDEN, PRICES]))
        self.assertEqual(answers(flat([SIZES, FORBIDDEN, PRICES])), [5, 0, 0, 0, 0, 0, 1, -2, 1, -2])

    def test_sixty_calls(self):
        self.assertEqual(answers(COUNTS * 60), [4, 0, 1, 1, 1] * 60)
        rooms = path(*[(room, 1) for room in range(7)])
        self.assertEqual(answers(rooms + PRICES * 59), [2, 0, 7] + ([65, 0] + [0] * 64) * 59)

    def test_rows_as_long_as_a_list_may_be(self):
        longest = [0] * 70
        self.assertEqual(answers(flat([props(*longest), run(*longest), alike(longest, longest), COUNTS])),
                         [1, -1, 1, -1, 1, -1, 4, 0, 1, 1, 1])
        self.assertEqual(answers(flat([swap(0, *longest), path(*[(0, 1)] * 35), fits(*longest), proves(1, 1, *longest),
                                       SIZES])), [1, -1, 1, -9, 1, -1, 1, -1, 5, 0, 0, 0, 0, 0])

    def test_a_number_that_stands_for_no_call(self):
        for number in (-1, 20):
            self.assertRaises(UnknownCall, answers, COUNTS + [number])

    def test_nothing_is_printed(self):
        out, err = io.StringIO(), io.StringIO()
        with contextlib.redirect_stdout(out), contextlib.redirect_stderr(err):
            answers(list(CALLS))
        self.assertEqual(out.getvalue() + err.getvalue(), "")


if __name__ == "__main__":
    unittest.main()
