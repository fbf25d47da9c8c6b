"""Points 2 and 3: what a floor is, and which refusal is due first."""

import unittest

from crewfloor.errors import BadCrew, BadJob, BadOrder, FloorError, Ring
from crewfloor.floors import look

HUGE = 10 ** 40
NO_SIZES = (0, -1, 51, HUGE, -HUGE, True, False)


def idle(many, crews=1):
    """Jobs of one hour that need nothing."""
    return ((1, (0,) * crews),) * many


def swapped(things, at, thing):
    return things[:at] + (thing,) + things[at + 1:]


def forty():
    """Forty good orders, none in a ring, some more than once."""
    pairs = [(a, b) for a in range(8) for b in range(a + 1, 8)]
    return tuple((pairs + pairs)[:40])


class Case(unittest.TestCase):
    def refused(self, floor, kind, at):
        with self.assertRaises(FloorError) as caught:
            look(floor)
        self.assertIs(type(caught.exception), kind, floor)
        self.assertEqual(caught.exception.at, at, floor)

    def ring(self, floor):
        """The ring that is told, which is checked to be one."""
        with self.assertRaises(Ring) as caught:
            look(floor)
        jobs = caught.exception.jobs
        self.assertIs(type(jobs), list)
        self.assertGreaterEqual(len(jobs), 2)
        self.assertEqual(len(set(jobs)), len(jobs))
        for a, b in zip(jobs, jobs[1:] + jobs[:1]):
            self.assertIn((a, b), floor[2])
        return jobs


class Good(Case):
    def test_crews_at_the_limits(self):
        for crews in ((1,), (50,), (1, 50, 50, 1), (7, 8, 9)):
            self.assertIsNone(look((crews, idle(1, len(crews)), ())))

    def test_jobs_at_the_limits(self):
        for many in (1, 2, 12):
            self.assertIsNone(look(((1,), idle(many), ())))
        for hours in (1, 2, 49, 50):
            self.assertIsNone(look(((1,), ((hours, (1,)),), ())))

    def test_needs_at_the_limits(self):
        for needs in ((0, 0, 0), (3, 1, 50), (0, 1, 0), (3, 0, 49)):
            self.assertIsNone(look(((3, 1, 50), ((4, needs),), ())))

    def test_orders_at_the_limits(self):
        self.assertIsNone(look(((1,), idle(12), ())))
        self.assertEqual(len(forty()), 40)
        self.assertIsNone(look(((1,), idle(12), forty())))
        self.assertIsNone(look(((1,), idle(2), ((1, 0),) * 40)))
        self.assertIsNone(look(((1,), idle(12), ((0, 11), (11, 5), (0, 11)))))

    def test_jobs_that_meet_again_are_no_ring(self):
        self.assertIsNone(look(((1,), idle(4), ((3, 1), (3, 2), (1, 0), (2, 0), (3, 0)))))


class Crews(Case):
    def test_none(self):
        self.refused(((), ((1, ()),), ()), BadCrew, 0)
        self.refused(((), (), ()), BadCrew, 0)

    def test_each_place(self):
        crews = (1, 50, 2, 3)
        for at in range(4):
            for size in NO_SIZES:
                self.refused((swapped(crews, at, size), idle(1, 4), ()), BadCrew, at)

    def test_the_first_of_several(self):
        self.refused(((5, 0, 51), idle(1, 3), ()), BadCrew, 1)

    def test_more_than_four(self):
        for many in (5, 6, 20):
            self.refused(((5,) * many, idle(1, many), ()), BadCrew, 4)

    def test_more_than_four_with_a_bad_one_ahead(self):
        for at in range(4):
            self.refused((swapped((5,) * 6, at, 0), idle(1, 6), ()), BadCrew, at)

    def test_more_than_four_with_a_bad_one_behind(self):
        for at in (4, 5):
            self.refused((swapped((5,) * 6, at, 0), idle(1, 6), ()), BadCrew, 4)


class Jobs(Case):
    crews = (3, 50)
    good = ((1, (0, 0)), (50, (3, 50)), (7, (1, 1))) * 4
    bad = (
        [(hours, (1, 1)) for hours in (0, -1, 51, HUGE, -HUGE, True, False)]
        + [(2, needs) for needs in ((), (1,), (1, 1, 1), (-1, 1), (1, -1), (4, 1), (1, 51), (HUGE, 1), (1, -HUGE))]
        + [(2, needs) for needs in ((True, 1), (1, False))]
    )

    def test_none(self):
        self.refused((self.crews, (), ()), BadJob, 0)

    def test_each_place(self):
        for at in range(12):
            for job in self.bad:
                self.refused((self.crews, swapped(self.good, at, job), ()), BadJob, at)

    def test_only_job(self):
        for job in self.bad:
            self.refused((self.crews, (job,), ()), BadJob, 0)

    def test_the_first_of_several(self):
        jobs = swapped(swapped(self.good, 6, (0, (1, 1))), 4, (2, (4, 1)))
        self.refused((self.crews, jobs, ()), BadJob, 4)

    def test_more_than_twelve(self):
        for many in (13, 14, 40):
            self.refused((self.crews, self.good[:1] * many, ()), BadJob, 12)

    def test_more_than_twelve_with_a_bad_one_ahead(self):
        for at in (0, 5, 11):
            jobs = swapped(self.good + self.good[:2], at, (51, (1, 1)))
            self.refused((self.crews, jobs, ()), BadJob, at)

    def test_more_than_twelve_with_a_bad_one_behind(self):
        for at in (12, 13):
            jobs = swapped(self.good + self.good[:2], at, (51, (1, 1)))
            self.refused((self.crews, jobs, ()), BadJob, 12)


class Orders(Case):
    bad = ((0, 0), (7, 7), (8, 0), (0, 8), (-1, 0), (0, -1), (HUGE, 0), (0, -HUGE), (9, 9), (False, 1), (0, True))

    def test_each_place(self):
        for at in range(40):
            for order in self.bad:
                self.refused(((1,), idle(8), swapped(forty(), at, order)), BadOrder, at)

    def test_only_order(self):
        for order in self.bad:
            self.refused(((1,), idle(8), (order,)), BadOrder, 0)
        self.refused(((1,), idle(1), ((0, 0),)), BadOrder, 0)
        self.refused(((1,), idle(1), ((0, 1),)), BadOrder, 0)

    def test_the_first_of_several(self):
        self.refused(((1,), idle(3), ((0, 1), (1, 2), (2, 3), (1, 1))), BadOrder, 2)

    def test_more_than_forty(self):
        for more in (1, 2, 30):
            self.refused(((1,), idle(8), forty() + ((0, 1),) * more), BadOrder, 40)

    def test_more_than_forty_with_a_bad_one_ahead(self):
        for at in (0, 20, 39):
            orders = swapped(forty() + ((0, 1),), at, (3, 3))
            self.refused(((1,), idle(8), orders), BadOrder, at)

    def test_more_than_forty_with_a_bad_one_behind(self):
        for at in (40, 41):
            orders = swapped(forty() + ((0, 1), (0, 1)), at, (3, 3))
            self.refused(((1,), idle(8), orders), BadOrder, 40)


class Rings(Case):
    def test_two_jobs(self):
        jobs = self.ring(((1,), idle(2), ((0, 1), (1, 0))))
        self.assertEqual(sorted(jobs), [0, 1])

    def test_three_jobs_either_way(self):
        for orders in (((0, 1), (1, 2), (2, 0)), ((0, 2), (2, 1), (1, 0))):
            jobs = self.ring(((1,), idle(3), orders))
            self.assertEqual(sorted(jobs), [0, 1, 2])

    def test_all_twelve(self):
        orders = tuple((k, (k + 5) % 12) for k in range(12))
        jobs = self.ring(((1,), idle(12), orders))
        self.assertEqual(sorted(jobs), list(range(12)))

    def test_beside_jobs_in_none(self):
        # 0 and 1 lead into the ring of 5, 3, 8; 9 and 2 are led to by it; 4 -> 6 are beside it.
        orders = ((0, 1), (1, 5), (4, 6), (5, 3), (3, 8), (8, 5), (8, 9), (9, 2), (1, 9))
        for turn in range(len(orders)):
            jobs = self.ring(((1,), idle(10), orders[turn:] + orders[:turn]))
            self.assertEqual(sorted(jobs), [3, 5, 8])

    def test_several_rings_that_share_jobs(self):
        orders = ((0, 1), (1, 0), (1, 2), (2, 3), (3, 1), (3, 4), (4, 0), (5, 4), (2, 6), (6, 7), (7, 6))
        for turn in range(len(orders)):
            self.ring(((1,), idle(8), orders[turn:] + orders[:turn]))

    def test_of_every_three_orders_of_four_jobs(self):
        pairs = [(a, b) for a in range(4) for b in range(4) if a != b]
        for orders in ((x, y, z) for x in pairs for y in pairs for z in pairs):
            floor = ((1,), idle(4), orders)
            if self.reaches_itself(orders):
                self.ring(floor)
            else:
                self.assertIsNone(look(floor))

    def reaches_itself(self, orders):
        reach = set(orders)
        for _ in range(4):
            reach |= {(a, d) for a, b in reach for c, d in reach if b == c}
        return any(a == b for a, b in reach)

    def test_with_the_same_order_more_than_once(self):
        self.ring(((1,), idle(3), ((0, 1),) * 20 + ((1, 0),) * 20))

    def test_closed_by_the_fortieth_order(self):
        self.ring(((1,), idle(8), forty()[:39] + ((7, 0),)))

    def test_is_told_as_before(self):
        floor = ((1,), idle(4), ((0, 1), (1, 2), (2, 1), (2, 3)))
        first = self.ring(floor)
        first.append(77)
        second = self.ring(floor)
        self.assertEqual(second, first[:-1])


class Due(Case):
    ring_of_two = ((0, 1), (1, 0))

    def test_crew_ahead_of_all(self):
        self.refused(((5, 0), ((0, (9, 9)), (1, (0, 0))), ((0, 0),)), BadCrew, 1)
        self.refused(((51,), (), self.ring_of_two), BadCrew, 0)
        self.refused(((5,) * 5, (), ((0, 0),)), BadCrew, 4)
        self.refused(((), (), ((0, 0),) * 41), BadCrew, 0)

    def test_job_ahead_of_order_and_ring(self):
        self.refused(((5,), ((1, (0,)), (0, (0,))), ((0, 0),)), BadJob, 1)
        self.refused(((5,), ((1, (0,)), (1, (6,))), self.ring_of_two), BadJob, 1)
        self.refused(((5,), idle(13), ((0, 0),) * 41), BadJob, 12)
        self.refused(((5,), (), self.ring_of_two), BadJob, 0)

    def test_order_ahead_of_ring(self):
        self.refused(((5,), idle(2), self.ring_of_two + ((1, 1),)), BadOrder, 2)
        self.refused(((5,), idle(2), self.ring_of_two * 21), BadOrder, 40)
