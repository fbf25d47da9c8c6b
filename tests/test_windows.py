"""Point 7: own_windows and windows."""

import itertools
import random
import unittest

from crewfloor.windows import own_windows, windows
from tests.plainly import floor_by, own_windows_plainly, windows_plainly

HUGE = 10 ** 40

# 0 leads to 1 and 2, both lead to 3; 4 is by itself. The longest chain, 0, 2, 3, has 9 hours.
FLOOR = ((1,), ((2, (1,)), (3, (0,)), (4, (1,)), (3, (0,)), (5, (1,))), ((0, 1), (2, 3), (0, 2), (1, 3)))


class OwnWindows(unittest.TestCase):
    def test_no_choices(self):
        self.assertEqual(own_windows(FLOOR, 10, []), [(0, 8), (0, 7), (0, 6), (0, 7), (0, 5)])

    def test_one_job_of_one_hour(self):
        floor = ((1,), ((1, (1,)),), ())
        self.assertEqual(own_windows(floor, 1, []), [(0, 0)])
        self.assertEqual(own_windows(floor, 0, []), [(0, -1)])

    def test_limits_of_any_size(self):
        self.assertEqual(own_windows(FLOOR, 0, []), [(0, -2), (0, -3), (0, -4), (0, -3), (0, -5)])
        self.assertEqual(own_windows(FLOOR, -7, []), [(0, -9), (0, -10), (0, -11), (0, -10), (0, -12)])
        for limit in (HUGE, -HUGE):
            wanted = [(0, limit - hours) for hours in (2, 3, 4, 3, 5)]
            self.assertEqual(own_windows(FLOOR, limit, []), wanted)

    def test_an_early_one(self):
        for hour, last in ((9, 8), (8, 8), (7, 7), (0, 0), (-4, -4), (HUGE, 8), (-HUGE, -HUGE)):
            self.assertEqual(own_windows(FLOOR, 10, [("early", 0, hour)])[0], (0, last))

    def test_a_late_one(self):
        for hour, first in ((-9, 0), (-2, 0), (-1, 0), (0, 1), (3, 4), (8, 9), (50, 51), (HUGE, HUGE + 1)):
            self.assertEqual(own_windows(FLOOR, 10, [("late", 0, hour)])[0], (first, 8))

    def test_several_of_one_job(self):
        choices = [("late", 1, 2), ("early", 1, 6), ("late", 1, 4), ("early", 1, 5), ("late", 1, 3), ("early", 1, 7)]
        for row in itertools.permutations(choices):
            self.assertEqual(own_windows(FLOOR, 10, list(row)), [(0, 8), (5, 5), (0, 6), (0, 7), (0, 5)])

    def test_several_of_several_jobs(self):
        choices = [("late", 4, 0), ("early", 0, 3), ("late", 3, 5), ("early", 4, 2), ("early", 3, 1)]
        self.assertEqual(own_windows(FLOOR, 10, choices), [(0, 3), (0, 7), (0, 6), (6, 1), (1, 2)])

    def test_the_same_twice(self):
        choices = [("late", 2, 1), ("early", 2, 4)]
        self.assertEqual(own_windows(FLOOR, 10, choices * 2), own_windows(FLOOR, 10, choices))

    def test_orders_do_not_matter(self):
        crews, jobs, _ = FLOOR
        choices = [("late", 0, 4), ("early", 3, 2)]
        self.assertEqual(own_windows(FLOOR, 10, choices), own_windows((crews, jobs, ()), 10, choices))


class Windows(unittest.TestCase):
    def test_no_choices(self):
        self.assertEqual(windows(FLOOR, 10, []), [(0, 1), (2, 4), (2, 3), (6, 7), (0, 5)])

    def test_no_orders(self):
        crews, jobs, _ = FLOOR
        choices = [("late", 0, 4), ("early", 3, 2)]
        floor = (crews, jobs, ())
        self.assertEqual(windows(floor, 10, choices), own_windows(floor, 10, choices))

    def test_at_the_longest_chain(self):
        self.assertEqual(windows(FLOOR, 9, []), [(0, 0), (2, 3), (2, 2), (6, 6), (0, 4)])
        self.assertEqual(windows(FLOOR, 8, []), [(0, -1), (2, 2), (2, 1), (6, 5), (0, 3)])

    def test_limits_of_any_size(self):
        self.assertEqual(windows(FLOOR, 0, []), [(0, -9), (2, -6), (2, -7), (6, -3), (0, -5)])
        for limit in (-20, -1, 1, 4, 30, HUGE, -HUGE):
            wanted = [(0, limit - 9), (2, limit - 6), (2, limit - 7), (6, limit - 3), (0, limit - 5)]
            self.assertEqual(windows(FLOOR, limit, []), wanted)

    def test_a_choice_goes_on_along_orders(self):
        self.assertEqual(windows(FLOOR, 20, [("late", 0, 3)]), [(4, 11), (6, 14), (6, 13), (10, 17), (0, 15)])
        self.assertEqual(windows(FLOOR, 20, [("late", 1, 6)]), [(0, 11), (7, 14), (2, 13), (10, 17), (0, 15)])
        self.assertEqual(windows(FLOOR, 20, [("early", 3, 9)]), [(0, 3), (2, 6), (2, 5), (6, 9), (0, 15)])
        self.assertEqual(windows(FLOOR, 20, [("early", 1, 4)]), [(0, 2), (2, 4), (2, 13), (6, 17), (0, 15)])

    def test_the_greatest_of_those_ahead_counts(self):
        choices = [("late", 1, 9), ("late", 2, 7)]
        self.assertEqual(windows(FLOOR, 30, choices), [(0, 21), (10, 24), (8, 23), (13, 27), (0, 25)])
        choices = [("late", 1, 9), ("late", 2, 8), ("late", 3, 20)]
        self.assertEqual(windows(FLOOR, 30, choices), [(0, 21), (10, 24), (9, 23), (21, 27), (0, 25)])

    def test_a_window_without_hours_is_handed_on_as_well(self):
        self.assertEqual(windows(FLOOR, 10, [("late", 2, 8)]), [(0, 1), (2, 4), (9, 3), (13, 7), (0, 5)])
        choices = [("early", 1, -3), ("late", 1, 20)]
        self.assertEqual(windows(FLOOR, 10, choices), [(0, -5), (21, -3), (2, 3), (24, 7), (0, 5)])

    def test_a_row_of_twelve_with_its_orders_in_any_order(self):
        jobs = tuple((k + 1, (0,)) for k in range(12))
        orders = [(k, k + 1) for k in range(11)]
        ahead = [sum(range(1, k + 1)) for k in range(12)]
        for row in (orders, orders[::-1], orders[::2] + orders[1::2], orders * 3):
            floor = ((1,), jobs, tuple(row))
            self.assertEqual(windows(floor, 100, []), [(many, 22 + many) for many in ahead])
            later = [(many + 5, 22 + many) for many in ahead]
            self.assertEqual(windows(floor, 100, [("late", 0, 4)]), later)
            sooner = [(many, many) for many in ahead]
            self.assertEqual(windows(floor, 100, [("early", 11, 66)]), sooner)

    def test_against_the_words(self):
        rng = random.Random(7)
        for _ in range(300):
            floor = floor_by(rng, rng.randint(1, 7), 5, 1, 3, rng.randint(0, 7))
            many = len(floor[1])
            choices = [(rng.choice(("early", "late")), rng.randrange(many), rng.randint(-3, 25))
                       for _ in range(rng.randint(0, 6))]
            limit = rng.randint(-5, 30)
            told = own_windows(floor, limit, choices)
            self.assertEqual(told, own_windows_plainly(floor, limit, choices), (floor, limit, choices))
            told = windows(floor, limit, choices)
            self.assertEqual(told, windows_plainly(floor, limit, choices), (floor, limit, choices))


class HandedIn(unittest.TestCase):
    def test_choices_are_as_before(self):
        choices = [("late", 0, 3), ("early", 3, 9), ("late", 0, 3)]
        for ask in (own_windows, windows):
            ask(FLOOR, 12, choices)
            self.assertEqual(choices, [("late", 0, 3), ("early", 3, 9), ("late", 0, 3)])

    def test_the_list_is_the_askers_own(self):
        choices = [("late", 0, 3)]
        for ask in (own_windows, windows):
            for row in ([], choices):
                first = ask(FLOOR, 12, row)
                kept = list(first)
                self.assertIs(type(first), list)
                self.assertTrue(all(type(window) is tuple and len(window) == 2 for window in first))
                first[0] = (99, 99)
                first.append((1, 2))
                self.assertEqual(ask(FLOOR, 12, row), kept)
