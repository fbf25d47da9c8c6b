"""Point 9: shut."""

import random
import unittest

from crewfloor.plans import length
from crewfloor.search import least
from crewfloor.trees import shut
from tests.plainly import floor_by, is_tree_plainly

HUGE = 10 ** 40
STRANGE = (None, True, False, 0, 1, -1, HUGE, "", "chain", "split", b"chain", (), [], {}, (()), ((),), ("chain",),
           [0], (0,), {0}, object(), len, int, ValueError, range(3), ("a", "b", "c", "d"), (1, 2, 3, 4, 5))

# 0, 1 and 2 follow one another for 9 hours; 3 is by itself.
CHAINS = ((3, 1), ((2, (0, 0)), (3, (0, 0)), (4, (0, 0)), (5, (0, 0))), ((0, 1), (1, 2)))

# Two jobs that need the whole crew, and one that needs half of it.
PAIR = ((2,), ((2, (2,)), (3, (2,)), (2, (1,))), ())

# Numbers that no job of CHAINS has: just beside its jobs and far from them.
NO_JOBS = (-1, -2, -4, 4, 5, 99, 10 ** 9, -10 ** 9, HUGE, -HUGE)

# Three jobs of one hour, no two of which fit side by side, though in two hours there's crew enough for them.
THREE = ((50,), ((1, (26,)), (1, (26,)), (1, (26,))), ())


class Shut(unittest.TestCase):
    def is_tree(self, floor, limit, tree):
        self.assertIs(shut(floor, limit, tree), True, tree)

    def is_none(self, floor, limit, tree):
        self.assertIs(shut(floor, limit, tree), False, tree)


class Chains(Shut):
    def test_one_hour_too_few(self):
        self.is_tree(CHAINS, 8, ("chain", (0, 1, 2)))
        self.is_none(CHAINS, 9, ("chain", (0, 1, 2)))
        self.is_tree(CHAINS, -HUGE, ("chain", (0, 1, 2)))
        self.is_none(CHAINS, HUGE, ("chain", (0, 1, 2)))

    def test_parts_of_a_chain(self):
        self.is_tree(CHAINS, 4, ("chain", (0, 1)))
        self.is_none(CHAINS, 5, ("chain", (0, 1)))
        self.is_tree(CHAINS, 6, ("chain", (1, 2)))
        self.is_none(CHAINS, 7, ("chain", (1, 2)))

    def test_one_job(self):
        self.is_tree(CHAINS, 4, ("chain", (3,)))
        self.is_none(CHAINS, 5, ("chain", (3,)))
        self.is_tree(CHAINS, 1, ("chain", (0,)))
        self.is_none(CHAINS, 2, ("chain", (0,)))

    def test_no_chain(self):
        for jobs in ((), (0, 2), (0, 3), (1, 0), (2, 1, 0), (0, 1, 2, 3), (3, 0, 1, 2), (0, 0, 1, 2), (0, 1, 1, 2),
                     (3, 3), (0, 1, 2, 0)):
            self.is_none(CHAINS, -100, ("chain", jobs))

    def test_a_job_that_is_not_there(self):
        for stray in NO_JOBS:
            for jobs in ((stray,), (0, stray), (stray, 1), (0, 1, stray), (-4, -3, -2)):
                self.is_none(CHAINS, -100, ("chain", jobs))

    def test_by_own_windows(self):
        # Narrowed by orders, 2 couldn't begin ahead of hour 5; by its own window it could.
        self.is_none(CHAINS, 8, ("chain", (2,)))
        self.is_none(CHAINS, 8, ("chain", (1, 2)))
        self.is_none(CHAINS, 8, ("chain", (0, 1)))


class Stretches(Shut):
    def test_from_hour_0_on(self):
        # By the limit 4 both lie in hour 2 at least, 0 at last in 2 and 3, 1 at first in 0 to 2.
        self.is_tree(PAIR, 3, ("stretch", 0, 0, 3))
        self.is_tree(PAIR, 4, ("stretch", 0, 0, 4))
        self.is_none(PAIR, 6, ("stretch", 0, 0, 6))

    def test_just_as_much_as_there_is(self):
        # Five hours for ten, and the half job more.
        floor = ((2,), PAIR[1][:2], ())
        self.is_none(floor, 5, ("stretch", 0, 0, 5))
        self.is_tree(floor, 4, ("stretch", 0, 0, 4))
        self.is_tree(PAIR, 5, ("stretch", 0, 0, 5))

    def test_one_hour_of_it(self):
        self.is_tree(PAIR, 3, ("stretch", 0, 1, 2))
        self.is_none(PAIR, 3, ("stretch", 0, 0, 1))
        self.is_none(PAIR, 3, ("stretch", 0, 2, 3))

    def test_begin_below_0(self):
        self.is_tree(PAIR, 2, ("stretch", 0, 0, 3))
        for begin in (-1, -2, -HUGE):
            self.is_none(PAIR, 2, ("stretch", 0, begin, 3))
            self.is_none(PAIR, -HUGE, ("stretch", 0, begin, 3))

    def test_begin_not_below_end(self):
        for begin, end in ((0, 0), (1, 1), (2, 1), (3, 0), (5, -5), (HUGE, HUGE), (HUGE, 0)):
            self.is_none(PAIR, 3, ("stretch", 0, begin, end))
            self.is_none(PAIR, -HUGE, ("stretch", 0, begin, end))

    def test_a_crew_that_is_not_there(self):
        self.is_tree(PAIR, 3, ("stretch", 0, 1, 2))
        for crew in (-1, 1, 2, HUGE, -HUGE):
            self.is_none(PAIR, 3, ("stretch", crew, 1, 2))

    def test_each_crew_by_its_own_size(self):
        floor = ((2, 3), ((2, (2, 1)), (2, (0, 2)), (2, (1, 1))), ())
        self.is_tree(floor, 2, ("stretch", 0, 0, 2))
        self.is_tree(floor, 2, ("stretch", 1, 0, 2))
        self.is_none(floor, 3, ("stretch", 1, 0, 3))
        floor = ((3, 3), floor[1], ())
        self.is_none(floor, 2, ("stretch", 0, 0, 2))
        self.is_tree(floor, 2, ("stretch", 1, 0, 2))

    def test_by_narrowed_windows(self):
        # 0 and 2 lead to 1 and 3, which therefore lie in hours 3 and 4 by the limit 5.
        floor = ((1,), ((3, (0,)), (2, (1,)), (3, (0,)), (1, (1,))), ((0, 1), (2, 3)))
        self.is_tree(floor, 5, ("stretch", 0, 3, 5))
        self.is_none((floor[0], floor[1], ((0, 1),)), 5, ("stretch", 0, 3, 5))
        self.is_none(floor, 6, ("stretch", 0, 3, 6))

    def test_very_many_hours(self):
        self.is_none(PAIR, 3, ("stretch", 0, 0, 10 ** 12))
        self.is_none(PAIR, HUGE, ("stretch", 0, 0, HUGE))


class Splits(Shut):
    tree = ("split", 0, 0,
            ("split", 1, 0, ("stretch", 0, 0, 1),
             ("split", 2, 0, ("stretch", 0, 0, 1), ("stretch", 0, 1, 2))),
            ("split", 1, 0,
             ("split", 2, 0, ("stretch", 0, 0, 1), ("stretch", 0, 1, 2)),
             ("stretch", 0, 1, 2)))

    def test_splits_within_splits(self):
        self.is_tree(THREE, 2, self.tree)
        self.is_none(THREE, 3, self.tree)
        self.is_none(THREE, 2, ("stretch", 0, 0, 2))

    def test_both_branches_count(self):
        for at in (3, 4):
            for other in (("stretch", 0, 0, 2), ("chain", (0,)), None, self.tree[7 - at]):
                parts = list(self.tree)
                parts[at] = other
                self.is_none(THREE, 2, tuple(parts))

    def test_early_and_late_are_not_the_same(self):
        word, job, hour, early, late = self.tree
        self.is_none(THREE, 2, (word, job, hour, late, early))

    def test_another_hour_or_job(self):
        for hour in (-1, 1, 2, HUGE, -HUGE):
            self.is_none(THREE, 2, ("split", 0, hour) + self.tree[3:])
        for job in (1, 2):
            self.is_none(THREE, 2, ("split", job, 0) + self.tree[3:])

    def test_an_early_choice_is_seen_by_own_windows(self):
        leaf = ("chain", (0, 1, 2))
        self.is_tree(CHAINS, 8, ("split", 1, 1, ("chain", (0, 1)), leaf))
        self.is_none(CHAINS, 8, ("split", 1, 2, ("chain", (0, 1)), leaf))
        self.is_none(CHAINS, 8, ("split", 0, 1, ("chain", (0, 1)), leaf))
        self.is_none(CHAINS, 8, ("split", 1, 1, leaf, ("chain", (0, 1))))

    def test_a_late_choice_is_seen_by_own_windows(self):
        leaf = ("chain", (0, 1, 2))
        self.is_tree(CHAINS, 8, ("split", 2, 4, leaf, ("chain", (2,))))
        self.is_none(CHAINS, 8, ("split", 2, 3, leaf, ("chain", (2,))))
        self.is_none(CHAINS, 8, ("split", 1, 4, leaf, ("chain", (2,))))
        self.is_none(CHAINS, 8, ("split", 2, 4, ("chain", (2,)), leaf))

    def test_choices_add_up_along_a_branch(self):
        leaf = ("chain", (0, 1, 2))
        self.is_tree(CHAINS, 8, ("split", 0, 1, leaf, ("split", 1, 3, ("chain", (0, 1)), leaf)))
        self.is_none(CHAINS, 8, ("split", 0, 1, leaf, ("split", 1, 4, ("chain", (0, 1)), leaf)))
        self.is_none(CHAINS, 8, ("split", 0, 0, leaf, ("split", 1, 3, ("chain", (0, 1)), leaf)))
        self.is_none(CHAINS, 8, ("split", 0, 1, ("split", 1, 3, ("chain", (0, 1)), leaf), leaf))

    def test_a_branch_does_not_see_the_choices_of_another_one(self):
        leaf = ("chain", (0, 1, 2))
        late = ("split", 1, 5, ("chain", (0, 1)), leaf)
        self.is_none(CHAINS, 8, ("split", 1, 1, ("chain", (0, 1)), late))
        both = ("split", 0, 2, ("split", 1, 1, ("chain", (0, 1)), leaf), ("split", 1, 4, ("chain", (0, 1)), leaf))
        self.is_tree(CHAINS, 8, both)

    def test_an_early_choice_is_seen_by_narrowed_windows(self):
        # Where 1 begins in hour 1, 0 lies in hour 0, in which 2 needs the crew.
        floor = ((1,), ((1, (1,)), (1, (0,)), (3, (1,))), ((0, 1),))
        self.is_tree(floor, 3, ("split", 1, 1, ("stretch", 0, 0, 1), ("stretch", 0, 0, 3)))
        self.is_none(floor, 3, ("split", 1, 2, ("stretch", 0, 0, 1), ("stretch", 0, 0, 3)))
        self.is_none((floor[0], floor[1], ()), 3, ("split", 1, 1, ("stretch", 0, 0, 1), ("stretch", 0, 0, 3)))

    def test_a_late_choice_is_seen_by_narrowed_windows(self):
        # Where 0 begins in hour 1, 1 lies in hour 2, in which 2 needs the crew.
        floor = ((1,), ((1, (0,)), (1, (1,)), (3, (1,))), ((0, 1),))
        self.is_tree(floor, 3, ("split", 0, 0, ("stretch", 0, 0, 3), ("stretch", 0, 2, 3)))
        self.is_none(floor, 3, ("split", 0, -1, ("stretch", 0, 0, 3), ("stretch", 0, 2, 3)))
        self.is_none((floor[0], floor[1], ()), 3, ("split", 0, 0, ("stretch", 0, 0, 3), ("stretch", 0, 2, 3)))

    def test_the_hour_is_any_number(self):
        leaf = ("chain", (0, 1, 2))
        for job in range(4):
            for hour in (-2, -1, 0, 3, 8, 9, HUGE, -HUGE):
                self.is_tree(CHAINS, 8, ("split", job, hour, leaf, leaf))

    def test_a_job_that_is_not_there_at_the_root(self):
        leaf = ("chain", (0, 1, 2))
        for job in NO_JOBS:
            for hour in (-1, 0, 3, HUGE, -HUGE):
                self.is_none(CHAINS, 8, ("split", job, hour, leaf, leaf))
        stretch = ("stretch", 0, 1, 2)
        for job in (-1, 3, 4, 12, 10 ** 9):
            self.is_none(PAIR, 3, ("split", job, 1, stretch, stretch))

    def test_a_job_that_is_not_there_below_other_splits(self):
        leaf = ("chain", (0, 1, 2))
        for job in NO_JOBS:
            bad = ("split", job, 1, leaf, leaf)
            for tree in (("split", 0, 1, bad, leaf), ("split", 0, 1, leaf, bad),
                         ("split", 3, 2, leaf, ("split", 1, 0, bad, leaf)),
                         ("split", 3, 2, ("split", 1, 0, leaf, bad), leaf),
                         ("split", job, 2, ("split", 1, 0, leaf, leaf), leaf)):
                self.is_none(CHAINS, 8, tree)

    def test_a_job_that_is_not_there_where_its_branches_are_long(self):
        tree = ("chain", (0, 1, 2))
        for k in range(200):
            tree = ("split", k % 4, k, tree, ("chain", (0, 1, 2)))
        self.is_tree(CHAINS, 8, tree)
        self.is_none(CHAINS, 8, ("split", 4, 1, tree, tree))
        self.is_none(CHAINS, 8, ("split", -1, 1, tree, tree))

    def test_each_floor_splits_by_its_own_jobs_only(self):
        leaf = ("chain", (0,))
        for many in range(1, 13):
            floor = ((1,), ((4, (0,)),) * many, ())
            for job in range(-3, 16):
                self.assertIs(shut(floor, 3, ("split", job, 1, leaf, leaf)), 0 <= job < many, (many, job))

    def test_very_many_splits_within_splits(self):
        leaf = ("chain", (0, 1, 2))
        early = late = leaf
        bad = ("chain", (0, 2))
        for k in range(20000):
            early = ("split", 3, k % 9 - 2, early, leaf)
            late = ("split", k % 4, k, leaf, late)
            bad = ("split", 3, 1, leaf, bad) if k % 2 else ("split", 3, 1, bad, leaf)
        self.is_tree(CHAINS, 8, early)
        self.is_tree(CHAINS, 8, late)
        self.is_none(CHAINS, 8, bad)


class AnyThing(Shut):
    chain = ("chain", (0, 1, 2))
    stretch = ("stretch", 0, 1, 2)
    split = ("split", 0, 0, ("chain", (0, 1, 2)), ("chain", (0, 1, 2)))

    def test_the_good_ones(self):
        self.is_tree(CHAINS, 8, self.chain)
        self.is_tree(CHAINS, 8, self.split)
        self.is_tree(PAIR, 3, self.stretch)

    def test_strange_things(self):
        for thing in STRANGE:
            self.is_none(CHAINS, 8, thing)
            self.is_none(CHAINS, -HUGE, thing)
            self.is_none(CHAINS, 8, (thing,))
            self.is_none(CHAINS, 8, (thing, thing))
            self.is_none(CHAINS, 8, ("chain", thing))
            self.is_none(CHAINS, 8, ("chain", (thing,)))
            self.is_none(CHAINS, 8, ("split", 0, 0, thing, thing))
            if type(thing) is not int:
                self.is_none(CHAINS, 8, ("chain", (0, thing, 2)))
                self.is_none(CHAINS, 8, ("split", thing, 0) + self.split[3:])
                self.is_none(PAIR, 3, ("stretch", thing, 1, 2))

    def test_parts_lacking(self):
        for floor, limit, tree in ((CHAINS, 8, self.chain), (PAIR, 3, self.stretch), (CHAINS, 8, self.split)):
            for at in range(len(tree)):
                self.is_none(floor, limit, tree[:at] + tree[at + 1:])
                self.is_none(floor, limit, tree[:at])

    def test_parts_too_many(self):
        for floor, limit, tree in ((CHAINS, 8, self.chain), (PAIR, 3, self.stretch), (CHAINS, 8, self.split)):
            for part in STRANGE + tree:
                for at in range(len(tree) + 1):
                    self.is_none(floor, limit, tree[:at] + (part,) + tree[at:])

    def test_parts_of_another_kind(self):
        for floor, limit, tree in ((CHAINS, 8, self.chain), (PAIR, 3, self.stretch), (CHAINS, 8, self.split)):
            for at in range(len(tree)):
                for part in STRANGE:
                    other = tree[:at] + (part,) + tree[at + 1:]
                    self.assertIs(shut(floor, limit, other), is_tree_plainly(floor, limit, [], other), other)
                    if type(part) is not int and (at > 0 or part != tree[0]):
                        self.is_none(floor, limit, other)

    def test_lists_in_the_place_of_tuples(self):
        self.is_none(CHAINS, 8, list(self.chain))
        self.is_none(CHAINS, 8, ("chain", [0, 1, 2]))
        self.is_none(PAIR, 3, list(self.stretch))
        self.is_none(CHAINS, 8, list(self.split))
        self.is_none(CHAINS, 8, ("split", 0, 0, list(self.chain), self.chain))
        self.is_none(CHAINS, 8, ("split", 0, 0, self.chain, ["chain", (0, 1, 2)]))

    def test_true_and_false_are_no_numbers(self):
        self.is_none(CHAINS, 8, ("chain", (False, 1, 2)))
        self.is_none(CHAINS, 8, ("chain", (0, True, 2)))
        self.is_none(PAIR, 3, ("stretch", False, 1, 2))
        self.is_none(PAIR, 3, ("stretch", 0, True, 2))
        self.is_none(PAIR, 1, ("stretch", 0, 0, True))
        self.is_tree(PAIR, 1, ("stretch", 0, 0, 1))
        self.is_none(CHAINS, 8, ("split", False, 0) + self.split[3:])
        self.is_none(CHAINS, 8, ("split", True, 0) + self.split[3:])
        self.is_none(CHAINS, 8, ("split", 0, False) + self.split[3:])

    def test_other_words(self):
        for word in ("Chain", "chains", "stretch", "split", "", "early", b"chain", ("chain",), 0, None):
            self.is_none(CHAINS, 8, (word, (0, 1, 2)))
        for word in ("chain", "split", "stretch ", "late", "", None):
            self.is_none(PAIR, 3, (word, 0, 1, 2))
        for word in ("chain", "stretch", "splits", "early", "late", 5):
            self.is_none(CHAINS, 8, (word,) + self.split[1:])

    def test_a_word_that_can_not_be_compared(self):
        class Sour:
            def __eq__(self, other):
                raise ArithmeticError

        for thing in (Sour(), (Sour(),), (Sour(), (0, 1, 2)), ("chain", Sour()), ("chain", (Sour(),)),
                      ("stretch", 0, Sour(), 2), ("split", Sour(), 0, self.chain, self.chain),
                      ("split", 0, 0, self.chain, (Sour(), 0, 0, 0, 0))):
            self.is_none(CHAINS, 8, thing)

    def test_against_the_words(self):
        rng = random.Random(9)
        for _ in range(150):
            floor = floor_by(rng, rng.randint(2, 4), 3, rng.randint(1, 2), 3, rng.randint(0, 4))
            starts, tree = least(floor)
            limit = length(floor, starts) - 1
            for _ in range(20):
                other = self.changed(rng, tree)
                at = limit + rng.randint(-1, 1)
                self.assertIs(shut(floor, at, other), is_tree_plainly(floor, at, [], other), (floor, at, other))

    def changed(self, rng, tree):
        """The tree with one of its parts changed, or put into a split."""
        if rng.randrange(6) == 0:
            return ("split", rng.randint(-1, 4), rng.randint(-1, 5), tree, tree)
        if tree[0] == "split" and rng.randrange(4):
            at = rng.choice((3, 4))
            return tree[:at] + (self.changed(rng, tree[at]),) + tree[at + 1:]
        if tree[0] == "chain":
            jobs = list(tree[1])
            jobs[rng.randrange(len(jobs))] = rng.randint(0, 3)
            return ("chain", tuple(jobs))
        at = rng.randint(1, 3 if tree[0] == "stretch" else 2)
        return tree[:at] + (tree[at] + rng.choice((-1, 1)),) + tree[at + 1:]


class HandedIn(Shut):
    def test_lists_in_a_tree_are_as_before(self):
        inner = [0, 1, 2]
        outer = ["chain", inner]
        self.is_none(CHAINS, 8, ("split", 0, 0, ("chain", inner), outer))
        self.assertEqual(inner, [0, 1, 2])
        self.assertEqual(outer, ["chain", [0, 1, 2]])
