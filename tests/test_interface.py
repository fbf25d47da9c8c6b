"""The names of the interface, each in its file, and the errors."""

import unittest

from crewfloor import errors, floors, plans, search, trees, windows


class Names(unittest.TestCase):
    def test_each_is_defined_in_its_file(self):
        listed = (
            (errors, ("FloorError", "BadCrew", "BadJob", "BadOrder", "Ring", "NoRow")),
            (floors, ("look", "heads", "tails")),
            (plans, ("is_plan", "length", "at_work", "laid")),
            (windows, ("own_windows", "windows", "within", "asked")),
            (trees, ("shut",)),
            (search, ("least",)),
        )
        for module, names in listed:
            for name in names:
                with self.subTest(name=name):
                    self.assertEqual(getattr(module, name).__module__, module.__name__)


class Errors(unittest.TestCase):
    under = (errors.BadCrew, errors.BadJob, errors.BadOrder, errors.Ring, errors.NoRow)

    def test_floor_error_is_a_value_error(self):
        self.assertTrue(issubclass(errors.FloorError, ValueError))

    def test_each_is_under_floor_error_and_under_no_other(self):
        for kind in self.under:
            self.assertTrue(issubclass(kind, errors.FloorError), kind)
            for other in self.under:
                self.assertEqual(issubclass(kind, other), kind is other, (kind, other))

    def test_at(self):
        for kind in (errors.BadCrew, errors.BadJob, errors.BadOrder):
            self.assertEqual(kind(3).at, 3)

    def test_jobs_are_a_list_of_its_own(self):
        jobs = [2, 0, 1]
        ring = errors.Ring(jobs)
        self.assertEqual(ring.jobs, [2, 0, 1])
        jobs.append(9)
        self.assertEqual(ring.jobs, [2, 0, 1])
