"""Point 6: laid, and NoRow."""

import itertools
import unittest

from crewfloor.errors import NoRow
from crewfloor.plans import is_plan, laid

HUGE = 10 ** 40


def laid_hour_by_hour(floor, row):
    """The starts as the point's words tell them, each hour tried in turn."""
    crews, jobs, orders = floor
    starts = {}
    for job in row:
        hour = 0
        while not may_begin(floor, starts, job, hour):
            hour += 1
        starts[job] = hour
    return [starts[k] for k in range(len(jobs))]


def may_begin(floor, starts, job, hour):
    crews, jobs, orders = floor
    if any(b == job and a in starts and hour < starts[a] + jobs[a][0] for a, b in orders):
        return False
    for now in range(hour, hour + jobs[job][0]):
        beside = [k for k in starts if starts[k] <= now < starts[k] + jobs[k][0]]
        for crew, size in enumerate(crews):
            if jobs[job][1][crew] + sum(jobs[k][1][crew] for k in beside) > size:
                return False
    return True


def is_row(floor, row):
    return all(row.index(a) < row.index(b) for a, b in floor[2])


class Laid(unittest.TestCase):
    def test_one_job(self):
        self.assertEqual(laid(((1,), ((50, (1,)),), ()), [0]), [0])

    def test_rows_of_two_that_need_the_whole_crew(self):
        floor = ((3,), ((4, (3,)), (2, (1,))), ())
        self.assertEqual(laid(floor, [0, 1]), [0, 4])
        self.assertEqual(laid(floor, [1, 0]), [2, 0])

    def test_jobs_that_fit_side_by_side(self):
        floor = ((3,), ((4, (1,)), (2, (1,)), (5, (1,)), (1, (1,))), ())
        self.assertEqual(laid(floor, [0, 1, 2, 3]), [0, 0, 0, 2])
        self.assertEqual(laid(floor, [3, 0, 2, 1]), [0, 1, 0, 0])

    def test_a_gap_ahead_of_one_laid_earlier(self):
        # 1 waits for 0 and fills the crew, so hours 0 to 3 have a gap of one.
        crews = (2,)
        jobs = ((4, (1,)), (3, (2,)), (4, (1,)), (1, (1,)))
        floor = (crews, jobs, ((0, 1),))
        self.assertEqual(laid(floor, [0, 1, 2, 3]), [0, 4, 0, 7])
        self.assertEqual(laid(floor, [0, 1, 3, 2]), [0, 4, 7, 0])

    def test_a_gap_that_is_one_hour_too_short(self):
        jobs = ((4, (1,)), (3, (2,)), (5, (1,)))
        self.assertEqual(laid(((2,), jobs, ((0, 1),)), [0, 1, 2]), [0, 4, 7])

    def test_a_gap_between_two_laid_earlier(self):
        # 0 is at work in hours 0 and 1, 2 in hours 5 and 6, as 1 has to end ahead of it.
        jobs = ((2, (1, 0)), (5, (0, 1)), (2, (1, 0)), (3, (1, 0)), (4, (1, 0)))
        floor = ((1, 1), jobs, ((1, 2),))
        self.assertEqual(laid(floor, [0, 1, 2, 3, 4]), [0, 0, 5, 2, 7])
        self.assertEqual(laid(floor, [0, 1, 2, 4, 3]), [0, 0, 5, 2, 7])

    def test_orders_alone(self):
        floor = ((1,), ((3, (0,)), (4, (0,)), (5, (0,))), ((2, 0), (0, 1), (2, 1)))
        self.assertEqual(laid(floor, [2, 0, 1]), [5, 8, 0])

    def test_jobs_that_need_nothing(self):
        floor = ((1,), ((5, (1,)), (7, (0,)), (5, (1,)), (2, (0,))), ((1, 3),))
        self.assertEqual(laid(floor, [0, 2, 1, 3]), [0, 0, 5, 7])
        self.assertEqual(laid(floor, [1, 3, 2, 0]), [5, 0, 0, 7])

    def test_crews_have_each_their_own_say(self):
        # 2 has to wait for crew 0 till hour 2, and then for crew 1 till hour 6.
        jobs = ((2, (1, 0)), (6, (0, 1)), (1, (1, 1)))
        self.assertEqual(laid(((1, 1), jobs, ()), [0, 1, 2]), [0, 0, 6])

    def test_every_row_against_hour_by_hour(self):
        jobs = ((3, (2, 0)), (1, (1, 2)), (4, (1, 1)), (2, (0, 2)), (2, (3, 1)), (1, (0, 0)))
        for orders in ((), ((0, 1),), ((3, 0), (3, 2), (2, 4)), ((5, 4), (4, 3), (3, 2), (2, 1), (1, 0))):
            floor = ((3, 2), jobs, orders)
            for row in itertools.permutations(range(6)):
                row = list(row)
                if is_row(floor, row):
                    starts = laid(floor, row)
                    self.assertEqual(starts, laid_hour_by_hour(floor, row), (orders, row))
                    self.assertTrue(is_plan(floor, starts))

    def test_twelve_jobs(self):
        jobs = tuple((50 - k, (k % 3 + 1, k % 5)) for k in range(12))
        floor = ((4, 4), jobs, tuple((k, k + 3) for k in range(9)))
        for row in (list(range(12)), [0, 3, 6, 9, 1, 4, 7, 10, 2, 5, 8, 11], [2, 1, 0, 5, 4, 3, 8, 7, 6, 11, 10, 9]):
            self.assertEqual(laid(floor, row), laid_hour_by_hour(floor, row))


class Refused(unittest.TestCase):
    floor = ((1,), ((1, (0,)),) * 4, ((0, 2), (2, 3)))

    def refused(self, row):
        with self.assertRaises(NoRow):
            laid(self.floor, row)

    def test_the_good_rows(self):
        for row in itertools.permutations(range(4)):
            row = list(row)
            if is_row(self.floor, row):
                laid(self.floor, row)
            else:
                self.refused(row)

    def test_none_at_all(self):
        self.refused([])

    def test_one_lacking(self):
        for row in ([1, 2, 3], [0, 2, 3], [0, 1, 3], [0, 1, 2], [1]):
            self.refused(row)

    def test_one_twice(self):
        for row in ([0, 1, 2, 2], [0, 0, 2, 3], [1, 1, 1, 1]):
            self.refused(row)

    def test_one_too_many(self):
        for row in ([0, 1, 2, 3, 3], [0, 0, 1, 2, 3], [0, 1, 2, 3, 4], [0, 1, 2, 3] * 2):
            self.refused(row)

    def test_one_that_is_not_there(self):
        for stray in (-1, 4, HUGE, -HUGE):
            self.refused([stray, 0, 2, 3])
            self.refused([0, stray, 2, 3])
            self.refused([0, 1, 2, stray])

    def test_one_ahead_of_what_it_follows(self):
        self.refused([2, 0, 1, 3])
        self.refused([0, 3, 2, 1])
        self.refused([0, 1, 3, 2])

    def test_true_and_false_are_no_jobs(self):
        self.refused([False, 1, 2, 3])
        self.refused([0, True, 2, 3])


class HandedIn(unittest.TestCase):
    floor = ((1,), ((2, (1,)), (3, (1,)), (4, (1,))), ((2, 1),))

    def test_the_row_is_as_before(self):
        row = [2, 0, 1]
        laid(self.floor, row)
        self.assertEqual(row, [2, 0, 1])
        bad = [1, 2, 0]
        with self.assertRaises(NoRow):
            laid(self.floor, bad)
        self.assertEqual(bad, [1, 2, 0])

    def test_the_list_is_the_askers_own(self):
        row = [2, 0, 1]
        first = laid(self.floor, row)
        self.assertIs(type(first), list)
        self.assertEqual(first, [4, 6, 0])
        first[0] = 99
        first.append(1)
        self.assertEqual(row, [2, 0, 1])
        self.assertEqual(laid(self.floor, row), [4, 6, 0])
