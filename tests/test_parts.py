"""The parts of the search: fits, strains and leaves."""

import itertools
import random
import unittest

from crewfloor.fits import Fits
from crewfloor.leaves import Leaves, joined, mended
from crewfloor.strains import strain
from crewfloor.windows import asked, narrowed, own_windows
from tests.plainly import floor_by, is_tree_plainly, windows_plainly

THREE = ((50,), ((1, (26,)), (1, (26,)), (1, (26,))), ())


def some_choices(rng, floor, most):
    many = len(floor[1])
    return [(rng.choice(("early", "late")), rng.randrange(many), rng.randint(-1, 8)) for _ in range(rng.randint(0, most))]


def choices_of(windows):
    """Choices that leave just these windows, where they are no wider than those by no choices."""
    early = [("early", job, last) for job, (_, last) in enumerate(windows)]
    return early + [("late", job, first - 1) for job, (first, _) in enumerate(windows)]


def begins_by_all_starts(floor, group, found):
    """Starts of the group within the windows that keep the sizes and leave hours for what orders lead through."""
    crews, jobs, orders = floor
    for row in itertools.product(*[range(found[job][0], found[job][1] + 1) for job in group]):
        starts = dict(zip(group, row))
        hours = range(min(row), max(row) + 3)
        busy = [[job for job in group if starts[job] <= hour < starts[job] + jobs[job][0]] for hour in hours]
        if any(sum(jobs[job][1][crew] for job in now) > size for now in busy for crew, size in enumerate(crews)):
            continue
        fixed = [(starts[job], starts[job]) if job in group else window for job, window in enumerate(found)]
        if narrowed(floor, fixed) == narrowed(floor, narrowed(floor, fixed)) and all(
                first <= last for first, last in narrowed(floor, fixed)):
            return starts
    return None


class FitsTest(unittest.TestCase):
    def test_against_all_starts(self):
        rng = random.Random(31)
        none = some = 0
        for _ in range(1500):
            floor = floor_by(rng, rng.randint(2, 5), 3, rng.randint(1, 2), 2, rng.randint(0, 4))
            found = windows_plainly(floor, rng.randint(3, 8), some_choices(rng, floor, 4))
            if any(first > last for first, last in found):
                continue
            jobs = range(len(floor[1]))
            group = tuple(sorted(rng.sample(jobs, rng.randint(1, min(4, len(jobs))))))
            told = Fits(floor).starts(group, found)
            wanted = begins_by_all_starts(floor, group, found)
            self.assertEqual(told is None, wanted is None, (floor, group, found))
            if told is None:
                none += 1
                continue
            some += 1
            self.assertEqual(sorted(told), list(group))
            there = [(told[job], told[job]) if job in told else window for job, window in enumerate(found)]
            self.assertEqual(begins_by_all_starts(floor, group, there), told)
        self.assertGreater(min(none, some), 30)

    def test_no_jobs(self):
        self.assertEqual(Fits(THREE).starts((), [(0, 1)] * 3), {})

    def test_an_order_through_a_job_out_of_the_group(self):
        # 0 leads to 1 and that to 2, so 2 begins five hours behind 0.
        floor = ((1,), ((2, (1,)), (3, (0,)), (1, (1,)), (3, (1,))), ((0, 1), (1, 2)))
        found = [(0, 1), (2, 3), (5, 6), (0, 3)]
        self.assertEqual(Fits(floor).starts((0, 2, 3), found), {0: 0, 2: 5, 3: 2})
        found = [(0, 1), (2, 3), (5, 5), (0, 1)]
        self.assertIsNone(Fits(floor).starts((0, 2, 3), found))
        self.assertEqual(Fits(floor).starts((0, 3), found), None)


class StrainTest(unittest.TestCase):
    def test_what_is_told_holds(self):
        rng = random.Random(32)
        counts = {"short": 0, "early": 0, "late": 0}
        for _ in range(1500):
            floor = floor_by(rng, rng.randint(2, 6), 4, 1, 6, rng.randint(0, 3))
            found = windows_plainly(floor, rng.randint(5, 14), some_choices(rng, floor, 4))
            if any(first > last for first, last in found):
                continue
            members = [(job, hours, needs[0]) for job, (hours, needs) in enumerate(floor[1]) if needs[0] > 0]
            stretch, cuts = strain(0, floor[0][0], members, found)
            if stretch is not None:
                self.assertTrue(self.is_short(floor, found, stretch))
                counts["short"] += 1
            for word, job in cuts:
                hour, there = cuts[(word, job)]
                first, last = found[job]
                self.assertTrue(first <= hour < last, (floor, found, word, job))
                window = (first, hour) if word == "early" else (hour + 1, last)
                self.assertTrue(self.is_short(floor, found[:job] + [window] + found[job + 1:], there))
                counts[word] += 1
        self.assertGreater(min(counts.values()), 50)

    def is_short(self, floor, found, stretch):
        word, crew, begin, end = stretch
        self.assertEqual(word, "stretch")
        self.assertTrue(0 <= begin < end)
        return asked(floor, found, crew, begin, end) > floor[0][crew] * (end - begin)

    def test_single_hours_to_begin_in(self):
        rng = random.Random(33)
        for _ in range(300):
            floor = floor_by(rng, rng.randint(2, 6), 4, 1, 6, 0)
            found = [(start, start) for start in [rng.randint(0, 6) for _ in floor[1]]]
            members = [(job, hours, needs[0]) for job, (hours, needs) in enumerate(floor[1]) if needs[0] > 0]
            stretch, cuts = strain(0, floor[0][0], members, found)
            short = any(self.is_short(floor, found, ("stretch", 0, hour, hour + 1)) for hour in range(11))
            self.assertEqual(stretch is not None, short)
            self.assertEqual(cuts, {})

    def test_the_greatest_cuts(self):
        # 1 lies in hours 4 to 6 anyhow; 0 has to begin by hour 1 or behind hour 6.
        floor = ((1,), ((3, (1,)), (4, (1,))), ())
        stretch, cuts = strain(0, 1, [(0, 3, 1), (1, 4, 1)], [(2, 9), (3, 4)])
        self.assertIsNone(stretch)
        self.assertEqual(cuts[("early", 0)][0], 6)
        stretch, cuts = strain(0, 1, [(0, 3, 1), (1, 4, 1)], [(0, 6), (3, 4)])
        self.assertIsNone(stretch)
        self.assertEqual(cuts[("late", 0)][0], 1)
        self.assertTrue(self.is_short(floor, [(2, 6), (3, 4)], cuts[("late", 0)][1]))


class LeavesTest(unittest.TestCase):
    def leaves(self, seed, steps):
        """Leaves with the floor, the limit and the choices that they were made for."""
        rng = random.Random(seed)
        for _ in range(500):
            floor = floor_by(rng, rng.randint(2, 5), 3, rng.randint(1, 2), 4, rng.randint(0, steps))
            limit = rng.randint(4, 9)
            maker = Leaves(floor, limit)
            choices = some_choices(rng, floor, 5)
            own = own_windows(floor, limit, choices)
            found = narrowed(floor, own)
            if any(first > last for first, last in maker.found):
                continue
            if any(first > last for first, last in found):
                yield floor, limit, choices, maker, maker.leaf(own, None)
                continue
            for crew, size in enumerate(floor[0]):
                for begin, end in itertools.combinations(range(8), 2):
                    if asked(floor, found, crew, begin, end) > size * (end - begin):
                        yield floor, limit, choices, maker, maker.leaf(own, ("stretch", crew, begin, end))

    def test_they_hold_within_their_wide_windows(self):
        counts = {"chain": 0, "stretch": 0}
        for floor, limit, choices, maker, (tree, wide) in self.leaves(34, 5):
            self.assertTrue(is_tree_plainly(floor, limit, choices, tree))
            self.assertTrue(is_tree_plainly(floor, limit, choices_of(wide), tree), (floor, limit, choices, tree, wide))
            for (first, last), (low, high), (least, most) in zip(own_windows(floor, limit, choices), wide, maker.own):
                self.assertTrue(least <= low <= first and last <= high <= most)
            counts[tree[0]] += 1
        self.assertGreater(min(counts.values()), 100)

    def test_wide_windows_are_as_wide_as_can_be(self):
        held = 0
        for floor, limit, _, maker, (tree, wide) in self.leaves(35, 0):
            for job, (low, high) in enumerate(wide):
                for window in ((low - 1, high), (low, high + 1)):
                    least, most = maker.own[job]
                    if least <= window[0] and window[1] <= most:
                        wider = wide[:job] + [window] + wide[job + 1:]
                        self.assertFalse(is_tree_plainly(floor, limit, choices_of(wider), tree))
                        held += 1
        self.assertGreater(held, 100)

    def test_joined(self):
        early = ("chain", (0,)), [(0, 3), (2, 9), (1, 4)]
        late = ("chain", (1,)), [(4, 9), (0, 7), (3, 5)]
        tree, wide = joined(0, 3, early, late)
        self.assertEqual(tree, ("split", 0, 3, ("chain", (0,)), ("chain", (1,))))
        self.assertEqual(wide, [(0, 9), (2, 7), (3, 4)])

    def test_mended(self):
        maker = Leaves(THREE, 2)
        one = ("stretch", 0, 0, 1)
        two = ("stretch", 0, 1, 2)
        good = ("split", 1, 0, ("split", 2, 0, one, two), two)
        self.assertEqual(mended(maker, one), one)
        self.assertEqual(mended(maker, good), good)
        # No job begins ahead of hour 0 or behind hour 1 by the limit 2.
        self.assertEqual(mended(maker, ("split", 1, -1, one, good)), good)
        self.assertEqual(mended(maker, ("split", 1, 1, good, one)), good)
        self.assertEqual(mended(maker, ("split", 0, 0, ("split", 0, 0, good, one), good)), ("split", 0, 0, good, good))
        self.assertEqual(mended(maker, ("split", 0, 0, good, ("split", 0, 0, one, good))), ("split", 0, 0, good, good))

    def test_mended_by_chains(self):
        # 0 leads to 1, so where 1 begins early and 0 late there's no hour left.
        floor = ((2,), ((2, (2,)), (1, (0,)), (2, (1,))), ((0, 1),))
        maker = Leaves(floor, 4)
        bad = ("stretch", 0, 0, 1)
        tree = ("split", 1, 2, ("split", 0, 0, bad, bad), bad)
        self.assertEqual(mended(maker, tree), ("split", 1, 2, bad, bad))
        # By the limit 2 no tree but a chain is needed.
        self.assertEqual(mended(Leaves(floor, 2), tree), ("chain", (0, 1)))
