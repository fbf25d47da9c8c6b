"""Point 5: is_plan, length and at_work."""

import unittest

from crewfloor.plans import at_work, is_plan, length

HUGE = 10 ** 40

# Two crews; 0 -> 1 by order, 2 and 3 follow none.
FLOOR = ((3, 2), ((4, (2, 0)), (2, (1, 1)), (3, (1, 2)), (1, (0, 1))), ((0, 1),))
STARTS = [0, 6, 2, 5]


class IsPlan(unittest.TestCase):
    def test_plans(self):
        for starts in (STARTS, [0, 5, 2, 0], [3, 7, 0, 7], [100, 1000, 10, 0], [1, 5, 2, 5]):
            self.assertIs(is_plan(FLOOR, starts), True, starts)

    def test_one_job(self):
        floor = ((1,), ((50, (1,)),), ())
        self.assertIs(is_plan(floor, [0]), True)
        self.assertIs(is_plan(floor, [7]), True)
        self.assertIs(is_plan(floor, [-1]), False)

    def test_starts_of_any_size(self):
        self.assertIs(is_plan(FLOOR, [HUGE, HUGE + 4, HUGE + 9, HUGE + 5]), True)
        self.assertIs(is_plan(FLOOR, [HUGE, HUGE + 3, HUGE + 9, HUGE + 5]), False)
        self.assertIs(is_plan(FLOOR, [0, 6, 2, HUGE]), True)
        self.assertIs(is_plan(FLOOR, [0, 6, 2, -HUGE]), False)

    def test_too_few_and_too_many(self):
        for starts in ([], [0], STARTS[:-1], STARTS + [20], STARTS + STARTS):
            self.assertIs(is_plan(FLOOR, starts), False, starts)

    def test_below_zero_at_each_place(self):
        floor = ((1,), ((1, (0,)),) * 3, ())
        self.assertIs(is_plan(floor, [0, 0, 0]), True)
        for at in range(3):
            starts = [0, 0, 0]
            starts[at] = -1
            self.assertIs(is_plan(floor, starts), False, starts)

    def test_true_and_false_are_no_starts(self):
        floor = ((1,), ((1, (0,)),) * 2, ())
        self.assertIs(is_plan(floor, [0, 1]), True)
        self.assertIs(is_plan(floor, [False, 1]), False)
        self.assertIs(is_plan(floor, [0, True]), False)

    def test_an_order_broken_by_one_hour(self):
        orders = ((0, 1), (2, 1), (1, 3))
        floor = ((1,), ((5, (0,)), (2, (0,)), (3, (0,)), (1, (0,))), orders)
        self.assertIs(is_plan(floor, [0, 5, 2, 7]), True)
        self.assertIs(is_plan(floor, [1, 5, 2, 7]), False)
        self.assertIs(is_plan(floor, [0, 5, 3, 7]), False)
        self.assertIs(is_plan(floor, [0, 5, 2, 6]), False)
        self.assertIs(is_plan(floor, [0, 4, 1, 7]), False)

    def test_one_more_than_its_size_in_one_hour(self):
        for jobs, good, bad in (
            # The two jobs share only the last hour of the first one.
            (((4, (2,)), (3, (2,))), [0, 4], [0, 3]),
            (((4, (2,)), (3, (2,))), [3, 0], [2, 0]),
            # Three jobs fill the crew; in hour 5 alone a fourth comes to it.
            (((6, (1,)), (6, (1,)), (2, (1,)), (1, (1,))), [0, 0, 3, 5], [0, 0, 4, 5]),
        ):
            floor = ((3,), jobs, ())
            self.assertIs(is_plan(floor, good), True, good)
            self.assertIs(is_plan(floor, bad), False, bad)

    def test_each_crew_is_looked_at(self):
        for crew in range(4):
            needs = tuple(1 if k == crew else 0 for k in range(4))
            floor = ((1, 1, 1, 1), ((2, needs), (2, needs)), ())
            self.assertIs(is_plan(floor, [0, 2]), True)
            self.assertIs(is_plan(floor, [0, 1]), False)

    def test_full_crew_is_no_fault(self):
        floor = ((50,), ((3, (25,)), (3, (24,)), (3, (1,))), ())
        self.assertIs(is_plan(floor, [0, 0, 0]), True)
        self.assertIs(is_plan(((49,), floor[1], ()), [0, 0, 0]), False)

    def test_against_hour_by_hour(self):
        crews = (3, 2)
        jobs = ((2, (2, 0)), (1, (1, 2)), (3, (1, 1)))
        floor = (crews, jobs, ((0, 1),))
        for at in range(6 ** 3):
            starts = [at // 36, at // 6 % 6, at % 6]
            good = starts[1] >= starts[0] + 2
            for hour in range(10):
                for crew in range(2):
                    busy = [k for k in range(3) if hour in range(starts[k], starts[k] + jobs[k][0])]
                    good = good and sum(jobs[k][1][crew] for k in busy) <= crews[crew]
            self.assertIs(is_plan(floor, starts), good, starts)


class Length(unittest.TestCase):
    def test_lengths(self):
        self.assertEqual(length(FLOOR, STARTS), 8)
        self.assertEqual(length(FLOOR, [0, 0, 0, 0]), 4)
        self.assertEqual(length(((1,), ((50, (1,)),), ()), [0]), 50)

    def test_the_last_to_end_is_not_the_last_to_begin(self):
        self.assertEqual(length(((2,), ((9, (1,)), (1, (1,))), ()), [0, 7]), 9)
        self.assertEqual(length(((2,), ((9, (1,)), (1, (1,))), ()), [0, 9]), 10)

    def test_starts_of_any_size(self):
        self.assertEqual(length(FLOOR, [HUGE, 0, 0, 0]), HUGE + 4)
        self.assertEqual(length(FLOOR, [-20, -20, -20, -20]), -16)
        self.assertEqual(length(FLOOR, [-HUGE, -3, -20, -20]), -1)

    def test_other_than_one_start_for_each_job_raises_nothing(self):
        self.assertEqual(length(FLOOR, []), 0)
        self.assertEqual(length(FLOOR, [3, 1]), 7)
        self.assertEqual(length(FLOOR, STARTS + [90]), 8)


class AtWork(unittest.TestCase):
    def test_hours_of_one_job(self):
        floor = ((5,), ((3, (4,)),), ())
        told = [at_work(floor, [2], 0, hour) for hour in range(8)]
        self.assertEqual(told, [0, 0, 4, 4, 4, 0, 0, 0])

    def test_hours_of_several(self):
        first = [at_work(FLOOR, STARTS, 0, hour) for hour in range(-2, 10)]
        second = [at_work(FLOOR, STARTS, 1, hour) for hour in range(-2, 10)]
        self.assertEqual(first, [0, 0, 2, 2, 3, 3, 1, 0, 1, 1, 0, 0])
        self.assertEqual(second, [0, 0, 0, 0, 2, 2, 2, 1, 1, 1, 0, 0])

    def test_starts_that_are_no_plan(self):
        self.assertEqual(at_work(FLOOR, [0, 0, 0, 0], 0, 0), 4)
        self.assertEqual(at_work(FLOOR, [0, 0, 0, 0], 1, 0), 4)
        self.assertEqual(at_work(FLOOR, [0, 0, 0, 0], 1, 1), 3)

    def test_hours_and_starts_of_any_size(self):
        floor = ((5,), ((3, (4,)), (2, (3,))), ())
        self.assertEqual([at_work(floor, [-4, -2], 0, hour) for hour in range(-6, 2)], [0, 0, 4, 4, 7, 3, 0, 0])
        self.assertEqual(at_work(floor, [HUGE, -HUGE], 0, HUGE + 2), 4)
        self.assertEqual(at_work(floor, [HUGE, -HUGE], 0, HUGE + 3), 0)
        self.assertEqual(at_work(floor, [HUGE, -HUGE], 0, -HUGE), 3)
        self.assertEqual(at_work(floor, [HUGE, -HUGE], 0, -HUGE - 1), 0)

    def test_a_crew_that_is_not_there(self):
        for crew in (-1, 2, 9, HUGE):
            self.assertEqual(at_work(FLOOR, STARTS, crew, 2), 0)

    def test_other_than_one_start_for_each_job_raises_nothing(self):
        self.assertEqual(at_work(FLOOR, [], 0, 0), 0)
        self.assertEqual(at_work(FLOOR, [0], 0, 0), 2)
        self.assertEqual(at_work(FLOOR, STARTS + [0], 0, 0), 2)


class HandedIn(unittest.TestCase):
    def test_starts_are_as_before(self):
        starts = list(STARTS)
        is_plan(FLOOR, starts)
        length(FLOOR, starts)
        at_work(FLOOR, starts, 1, 3)
        self.assertEqual(starts, STARTS)
