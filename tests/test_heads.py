"""Point 4: heads and tails."""

import itertools
import unittest

from crewfloor.floors import heads, tails


def floor_of(hours, orders):
    return ((1,), tuple((many, (0,)) for many in hours), tuple(orders))


class HeadsAndTails(unittest.TestCase):
    def told(self, hours, orders, ahead, behind):
        floor = floor_of(hours, orders)
        self.assertEqual(heads(floor), ahead)
        self.assertEqual(tails(floor), behind)

    def test_no_orders(self):
        self.told([7], [], [0], [0])
        self.told([3, 50, 1], [], [0, 0, 0], [0, 0, 0])

    def test_one_order(self):
        self.told([3, 4, 5], [(2, 0)], [5, 0, 0], [0, 0, 3])

    def test_long_row_of_twelve(self):
        hours = [50, 1, 2, 3, 4, 5, 6, 7, 8, 9, 10, 50]
        orders = [(k, k + 1) for k in range(11)]
        ahead = [sum(hours[:k]) for k in range(12)]
        behind = [sum(hours[k + 1:]) for k in range(12)]
        self.told(hours, orders, ahead, behind)
        self.told(hours, orders[::-1], ahead, behind)

    def test_long_row_against_the_numbers(self):
        orders = [(k + 1, k) for k in range(11)]
        ahead = [50 * (11 - k) for k in range(12)]
        behind = [50 * k for k in range(12)]
        self.told([50] * 12, orders, ahead, behind)
        self.told([50] * 12, orders[::-1], ahead, behind)

    def test_jobs_that_meet_again(self):
        # 0 leads to 1 and 2, both lead to 3, that leads to 4; 5 leads to 3 too.
        orders = [(0, 1), (0, 2), (1, 3), (2, 3), (3, 4), (5, 3)]
        self.told([2, 9, 4, 1, 5, 12], orders, [0, 2, 2, 12, 13, 0], [15, 6, 6, 5, 0, 6])

    def test_longer_by_hours_and_not_by_jobs(self):
        # The way of one job is longer than the way of three.
        orders = [(0, 1), (1, 2), (2, 4), (3, 4)]
        self.told([1, 1, 1, 9, 2], orders, [0, 1, 2, 0, 9], [4, 3, 2, 2, 0])

    def test_orders_in_any_order(self):
        orders = [(4, 2), (2, 0), (4, 0), (0, 3), (1, 3), (2, 1)]
        for row in itertools.permutations(orders):
            self.told([3, 10, 5, 2, 7], row, [12, 12, 7, 22, 0], [2, 2, 12, 0, 17])

    def test_orders_more_than_once(self):
        self.told([3, 4, 5], [(0, 1), (1, 2), (0, 1), (1, 2), (0, 1)], [0, 3, 7], [9, 5, 0])
        self.told([3, 4], [(0, 1)] * 40, [0, 3], [4, 0])

    def test_lists_are_the_askers_own(self):
        floor = floor_of([3, 4, 5], [(0, 1), (1, 2)])
        for ask in (heads, tails):
            first = ask(floor)
            self.assertIs(type(first), list)
            kept = list(first)
            first[0] = 99
            first.append(1)
            self.assertEqual(ask(floor), kept)
