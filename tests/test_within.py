"""Point 8: within and asked."""

import random
import unittest

from crewfloor.windows import asked, windows, within
from tests.plainly import floor_by, within_plainly

HUGE = 10 ** 12


class Within(unittest.TestCase):
    def test_one_start(self):
        # The job is at work from hour 5 up to 9.
        for begin, end, many in ((0, 5, 0), (0, 6, 1), (0, 9, 4), (3, 20, 4), (5, 9, 4), (6, 8, 2), (5, 6, 1),
                                 (8, 9, 1), (4, 5, 0), (9, 10, 0), (8, 30, 1), (9, 30, 0), (-10, 7, 2)):
            self.assertEqual(within((5, 5), 4, begin, end), many, (begin, end))

    def test_the_lesser_of_both(self):
        # At first it is at work from 2 up to 6, at last from 4 up to 8.
        for begin, end, many in ((0, 4, 0), (0, 5, 1), (0, 6, 2), (0, 7, 3), (0, 8, 4), (2, 8, 4), (3, 8, 3),
                                 (5, 8, 1), (6, 8, 0), (4, 6, 2), (4, 5, 1), (5, 6, 1), (3, 4, 0), (6, 7, 0)):
            self.assertEqual(within((2, 4), 4, begin, end), many, (begin, end))

    def test_stretches_ahead_of_and_behind_the_window(self):
        for window in ((5, 5), (5, 9), (9, 5)):
            self.assertEqual(within(window, 3, 0, 5), 0)
            self.assertEqual(within(window, 3, 12, 20), 0)
            self.assertEqual(within(window, 3, -HUGE, -1), 0)

    def test_a_stretch_between_first_and_last(self):
        self.assertEqual(within((0, 10), 3, 4, 9), 0)
        self.assertEqual(within((0, 10), 8, 4, 9), 0)
        self.assertEqual(within((0, 5), 8, 4, 9), 4)
        self.assertEqual(within((1, 5), 8, 4, 9), 4)
        self.assertEqual(within((2, 5), 8, 5, 9), 4)

    def test_one_hour(self):
        self.assertEqual([within((3, 5), 4, hour, hour + 1) for hour in range(12)], [0] * 5 + [1, 1] + [0] * 5)

    def test_very_many_hours(self):
        self.assertEqual(within((3, 9), 50, 0, HUGE), 50)
        self.assertEqual(within((3, 9), 50, 20, HUGE), 33)
        self.assertEqual(within((3, 9), 50, -HUGE, 30), 21)
        self.assertEqual(within((0, HUGE), 50, 0, HUGE), 0)
        self.assertEqual(within((0, HUGE - 20), 50, 0, HUGE), 20)
        self.assertEqual(within((HUGE, HUGE + 1), HUGE, HUGE, 3 * HUGE), HUGE)
        self.assertEqual(within((0, HUGE), 3 * HUGE, 2 * HUGE - 1, 10 * HUGE), HUGE + 1)

    def test_a_window_whose_first_is_above_its_last(self):
        self.assertEqual(within((4, 2), 4, 0, 6), 2)
        self.assertEqual(within((9, 0), 4, 0, 20), 4)
        self.assertEqual(within((9, 0), 4, 1, 20), 3)
        self.assertEqual(within((9, 0), 4, 3, 12), 1)
        self.assertEqual(within((3, -6), 4, 0, 20), 0)
        self.assertEqual(within((3, -2), 4, 0, 20), 2)

    def test_against_hour_by_hour(self):
        for first in range(-3, 7):
            for last in range(-3, 7):
                for hours in (1, 2, 5):
                    for begin in range(-4, 8):
                        for end in range(begin + 1, 10):
                            self.assertEqual(within((first, last), hours, begin, end),
                                             within_plainly((first, last), hours, begin, end))


class Asked(unittest.TestCase):
    floor = ((5, 4), ((4, (2, 0)), (3, (1, 4)), (6, (5, 1))), ((0, 1),))

    def test_each_times_its_need(self):
        found = [(2, 4), (0, 0), (1, 2)]
        # In hours 0 to 4 the jobs have to lie for 1, 3 and 3 hours.
        self.assertEqual(asked(self.floor, found, 0, 0, 5), 1 * 2 + 3 * 1 + 3 * 5)
        self.assertEqual(asked(self.floor, found, 1, 0, 5), 3 * 4 + 3 * 1)

    def test_no_need_is_not_asked_for(self):
        self.assertEqual(asked(self.floor, [(0, 0), (50, 50), (50, 50)], 0, 0, 9), 8)
        self.assertEqual(asked(self.floor, [(0, 0), (50, 50), (50, 50)], 1, 0, 9), 0)

    def test_very_many_hours(self):
        found = [(0, 9), (0, 9), (0, 9)]
        self.assertEqual(asked(self.floor, found, 0, 0, HUGE), 4 * 2 + 3 + 30)
        self.assertEqual(asked(self.floor, found, 1, -HUGE, HUGE), 3 * 4 + 6)
        self.assertEqual(asked(self.floor, found, 0, HUGE, HUGE + 1), 0)

    def test_a_window_whose_first_is_above_its_last(self):
        self.assertEqual(asked(self.floor, [(4, 2), (99, 99), (9, 0)], 0, 1, 7), 3 * 2)
        self.assertEqual(asked(self.floor, [(4, 2), (99, 99), (9, 0)], 0, 1, 11), 4 * 2 + 2 * 5)

    def test_of_a_crew_that_is_not_there_nothing_is_asked(self):
        for crew in (-1, -2, 2, 3, HUGE, -HUGE):
            self.assertEqual(asked(self.floor, [(0, 0), (0, 0), (0, 0)], crew, 0, 5), 0)

    def test_against_hour_by_hour(self):
        rng = random.Random(8)
        for _ in range(300):
            floor = floor_by(rng, rng.randint(1, 5), 4, rng.randint(1, 4), 6, rng.randint(0, 5))
            found = windows(floor, rng.randint(0, 18), [("late", 0, rng.randint(-2, 6))])
            crew = rng.randrange(len(floor[0]))
            begin = rng.randint(-3, 12)
            end = begin + rng.randint(1, 9)
            wanted = sum(needs[crew] * within_plainly(found[job], hours, begin, end)
                         for job, (hours, needs) in enumerate(floor[1]))
            self.assertEqual(asked(floor, found, crew, begin, end), wanted, (floor, found, crew, begin, end))

    def test_the_list_of_windows_is_as_before(self):
        found = [(2, 4), (0, 0), (1, 2)]
        asked(self.floor, found, 0, 0, 5)
        self.assertEqual(found, [(2, 4), (0, 0), (1, 2)])
