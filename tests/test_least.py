"""Point 10: least; and point 11: how the least length changes with the floor."""

import itertools
import random
import unittest

from crewfloor.floors import heads, look
from crewfloor.plans import is_plan, length
from crewfloor.search import least
from crewfloor.trees import shut
from tests.plainly import floor_by, is_tree_plainly, least_length_plainly, turned_about


class Least(unittest.TestCase):
    def least_length(self, floor):
        """The length that least tells, where what it tells holds."""
        look(floor)
        told = least(floor)
        self.assertIs(type(told), tuple)
        starts, tree = told
        self.assertIs(type(starts), list)
        self.assertTrue(all(type(start) is int for start in starts))
        self.assertIs(is_plan(floor, starts), True, floor)
        many = length(floor, starts)
        self.assertIs(shut(floor, many - 1, tree), True, floor)
        self.assertIs(shut(floor, many, tree), False, floor)
        return many

    def is_least(self, floor, many):
        self.assertEqual(self.least_length(floor), many, floor)


class KnownFloors(Least):
    def test_one_job(self):
        self.is_least(((1,), ((1, (0,)),), ()), 1)
        self.is_least(((1,), ((1, (1,)),), ()), 1)
        self.is_least(((50, 1, 2, 3), ((50, (50, 1, 0, 3)),), ()), 50)

    def test_side_by_side(self):
        self.is_least(((2,), ((3, (1,)), (4, (1,))), ()), 4)
        self.is_least(((2,), ((3, (2,)), (4, (1,))), ()), 7)
        self.is_least(((2,), ((3, (2,)), (4, (0,))), ()), 4)

    def test_orders_alone(self):
        jobs = ((2, (0,)), (9, (0,)), (4, (0,)), (1, (0,)), (5, (0,)), (12, (0,)))
        self.is_least(((1,), jobs, ((0, 1), (0, 2), (1, 3), (2, 3), (3, 4), (5, 3))), 18)
        self.is_least(((1,), jobs, ()), 12)
        self.is_least(((1,), jobs, tuple((k, k + 1) for k in range(5)) * 8), 33)

    def test_a_wait_pays(self):
        # 1 fits in hour 0, but then 0, which leads to the long job, has to wait.
        jobs = ((1, (2,)), (3, (1,)), (6, (0,)), (3, (1,)))
        self.is_least(((2,), jobs, ((0, 2),)), 7)
        self.is_least(((2,), jobs, ((0, 2), (1, 0))), 10)

    def test_no_two_fit_though_hours_are_enough(self):
        for many in range(2, 7):
            self.is_least(((50,), ((1, (26,)),) * many, ()), many)
        self.is_least(((50,), ((3, (26,)),) * 4, ()), 12)
        self.is_least(((50,), ((1, (26,)), (2, (26,)), (3, (26,)), (1, (26,)), (2, (24,))), ()), 7)

    def test_conflicts_by_unlike_crews(self):
        # Each two of the three share a crew that is too small for both.
        jobs = ((2, (2, 2, 0)), (2, (2, 0, 2)), (2, (0, 2, 2)))
        self.is_least(((3, 3, 3), jobs, ()), 6)
        self.is_least(((4, 3, 3), jobs, ()), 6 - 2)
        self.is_least(((4, 4, 4), jobs, ()), 2)

    def test_three_at_a_time(self):
        for many, least_many in ((3, 2), (4, 4), (6, 4), (7, 6)):
            self.is_least(((10,), ((2, (3,)),) * many, ()), least_many)


class AllRows(Least):
    def test_floors_of_two_jobs(self):
        for first, second in itertools.product(itertools.product((1, 2, 3), (0, 1, 2)), repeat=2):
            for orders in ((), ((0, 1),), ((1, 0),)):
                floor = ((2,), ((first[0], (first[1],)), (second[0], (second[1],))), orders)
                self.is_least(floor, least_length_plainly(floor))

    def test_floors_of_three_jobs_of_one_crew(self):
        kinds = [(hours, (need,)) for hours in (1, 2) for need in (0, 1, 2)]
        for jobs in itertools.product(kinds, repeat=3):
            for orders in ((), ((2, 0),), ((0, 1), (0, 2))):
                self.is_least(((2,), jobs, orders), least_length_plainly(((2,), jobs, orders)))

    def test_floors_of_one_to_four_jobs(self):
        rng = random.Random(10)
        for _ in range(500):
            floor = floor_by(rng, rng.randint(1, 4), 3, rng.randint(1, 2), rng.choice((2, 4, 50)), rng.randint(0, 5))
            self.is_least(floor, least_length_plainly(floor))

    def test_jobs_of_many_hours(self):
        rng = random.Random(11)
        for _ in range(40):
            floor = floor_by(rng, rng.randint(2, 4), 50, rng.randint(1, 4), 5, rng.randint(0, 5))
            self.is_least(floor, least_length_plainly(floor))

    def test_against_all_starts(self):
        rng = random.Random(12)
        for _ in range(60):
            floor = floor_by(rng, 3, 2, rng.randint(1, 2), 3, rng.randint(0, 4))
            rows = itertools.product(range(6), repeat=3)
            self.is_least(floor, min(length(floor, row) for row in rows if is_plan(floor, list(row))))

    def test_trees_against_the_words(self):
        rng = random.Random(13)
        for _ in range(100):
            floor = floor_by(rng, rng.randint(2, 6), 3, rng.randint(1, 3), 4, rng.randint(0, 4))
            starts, tree = least(floor)
            many = length(floor, starts)
            self.assertTrue(is_tree_plainly(floor, many - 1, [], tree), floor)
            self.assertFalse(is_tree_plainly(floor, many, [], tree), floor)


class BiggerFloors(Least):
    def test_two_jobs_with_needs(self):
        rng = random.Random(14)
        for _ in range(300):
            crews, jobs, orders = floor_by(rng, rng.randint(7, 12), 50, rng.randint(1, 4), 50, rng.randint(0, 4))
            needy = rng.sample(range(len(jobs)), 2)
            jobs = tuple((hours, needs if job in needy else (0,) * len(crews))
                         for job, (hours, needs) in enumerate(jobs))
            self.least_length((crews, jobs, orders))

    def test_two_short_jobs_and_long_chains(self):
        # The two jobs of one hour have many hours to begin in, but each time both begin too late.
        for wait in (1, 7, 40):
            jobs = ((50, (0,)), (50, (0,)), (1, (1,)), (wait, (1,)), (50, (0,)), (50, (0,)), (50, (0,)))
            orders = ((0, 2), (2, 1), (4, 3), (3, 5))
            self.least_length(((1,), jobs, orders))

    def test_short_jobs_of_small_crews(self):
        rng = random.Random(15)
        for _ in range(60):
            floor = floor_by(rng, rng.randint(7, 12), 3, rng.randint(1, 4), 2, rng.randint(2, 5))
            self.least_length(floor)

    def test_short_jobs_of_greater_crews(self):
        rng = random.Random(16)
        for _ in range(40):
            floor = floor_by(rng, rng.randint(7, 9), 3, rng.randint(1, 4), 50, rng.randint(3, 5))
            self.least_length(floor)

    def test_short_jobs_with_few_needs(self):
        rng = random.Random(17)
        for _ in range(60):
            crews, jobs, orders = floor_by(rng, rng.randint(7, 12), 3, rng.randint(1, 4), 6, rng.randint(0, 3))
            jobs = tuple((hours, tuple(need if rng.randrange(2) else 0 for need in needs)) for hours, needs in jobs)
            self.least_length((crews, jobs, orders))

    def test_twelve_jobs_as_many_as_fit(self):
        self.is_least(((4,), ((3, (1,)),) * 12, ()), 9)
        self.is_least(((5, 3), ((3, (1, 1)),) * 12, ()), 12)
        self.is_least(((50,), ((2, (50,)),) * 12, ()), 24)


class OtherFloors(Least):
    """Point 11."""

    def floors(self, seed, many):
        rng = random.Random(seed)
        for _ in range(many):
            yield floor_by(rng, rng.randint(2, 6), 3, rng.randint(1, 3), rng.choice((3, 20)), rng.randint(1, 5))

    def test_a_crew_made_greater(self):
        for crews, jobs, orders in self.floors(18, 60):
            many = self.least_length((crews, jobs, orders))
            for crew, size in enumerate(crews):
                for more in (1, 7):
                    others = crews[:crew] + (min(50, size + more),) + crews[crew + 1:]
                    self.assertLessEqual(self.least_length((others, jobs, orders)), many)

    def test_an_order_taken_out(self):
        for crews, jobs, orders in self.floors(19, 60):
            many = self.least_length((crews, jobs, orders))
            for at in range(len(orders)):
                self.assertLessEqual(self.least_length((crews, jobs, orders[:at] + orders[at + 1:])), many)

    def test_all_orders_turned_about(self):
        for floor in self.floors(20, 120):
            self.assertEqual(self.least_length(turned_about(floor)), self.least_length(floor), floor)

    def test_no_shorter_than_the_longest_chain(self):
        for floor in self.floors(21, 60):
            chains = [ahead + hours for ahead, (hours, _) in zip(heads(floor), floor[1])]
            self.assertGreaterEqual(self.least_length(floor), max(chains))


class HandedIn(Least):
    def test_the_list_is_the_askers_own(self):
        for floor in (((2,), ((3, (2,)), (4, (1,)), (1, (1,))), ((0, 1),)), ((1,), ((1, (0,)),), ())):
            first, tree = least(floor)
            kept = list(first)
            first[0] = 99
            first.append(1)
            again, other = least(floor)
            self.assertEqual(again, kept)
            self.assertIsNot(again, first)
            self.assertEqual(other, tree)

    def test_numbers_are_never_true_or_false(self):
        def parts(tree):
            for part in tree:
                if type(part) is tuple:
                    yield from parts(part)
                else:
                    yield part

        _, tree = least(((50,), ((1, (26,)),) * 4, ()))
        self.assertTrue(all(type(part) in (int, str) for part in parts(tree)))
