"""The search for a tree for a limit, or for a plan where there is none."""

from crewfloor.floors import heads
from crewfloor.leaves import Leaves, joined, mended
from crewfloor.strains import strain
from crewfloor.windows import chosen, narrowed

OTHER = {"early": "late", "late": "early"}
# From a window of more pieces no single ones are split off, so that splits don't lie too deep in one another.
MOST_PIECES = 24


class Refuter:
    """Finds a plan that keeps within a limit, or a tree for it.

    An end or a leaf is a pair of a tree and its wide windows.
    """

    def __init__(self, floor, limit, fits):
        crews, jobs, orders = floor
        ahead = heads(floor)
        # Narrowing goes fastest through orders that stand in the order of their jobs.
        self.floor = (crews, jobs, [(a, b) for _, a, b in sorted([(ahead[c], c, d) for c, d in orders])])
        self.fits = fits
        self.leaves = Leaves(self.floor, limit)
        self.members = [_members(jobs, crew) for crew in range(len(crews))]
        self.known = {}

    def plan_or_tree(self):
        """A plan and None, or None and a tree."""
        _, jobs, _ = self.floor
        needy = tuple([job for job, (_, needs) in enumerate(jobs) if any([need > 0 for need in needs])])
        own, _, end = self._cut(self.leaves.own)
        if end is None:
            found = narrowed(self.floor, own)
            starts = self.fits.starts(needy, found)
            if starts is not None:
                return self._whole(starts, found), None
        tree, _ = self._refuted(self.leaves.own, needy)
        return None, mended(self.leaves, tree)

    def _whole(self, starts, found):
        """A plan by the starts of those that need crews: the others begin as early as orders let them."""
        own = [(starts.get(job, first), last) for job, (first, last) in enumerate(found)]
        return [first for first, _ in narrowed(self.floor, own)]

    def _refuted(self, own, group):
        """An end for the own windows, into which the jobs of the group don't fit."""
        own, cuts, end = self._cut(own)
        if end is None:
            found = narrowed(self.floor, own)
            core = self._core(group, found)
            end = self._known_end(core, own)
            if end is None:
                job, hour = self._next_split(core, found)
                end = self._refuted(chosen(own, ("early", job, hour)), core)
                hour = end[1][job][1]
                # Up to this hour the tree holds anyhow; where that is the last one, it needs no split.
                if hour < own[job][1]:
                    late = self._refuted(chosen(own, ("late", job, hour)), core)
                    end = joined(job, hour, end, late) if late[1][job][0] > own[job][0] else late
                self.known.setdefault(core, []).append(end)
        for word, job, hour, before, leaf in reversed(cuts):
            end = _behind_cut(word, job, hour, before, leaf, end)
        return end

    def _known_end(self, core, own):
        """An end that was found for the same core and whose wide windows let the own ones by, or None."""
        for end in self.known.get(core, []):
            if _lie_within(own, end[1]):
                return end
        return None

    def _core(self, group, found):
        """Jobs of the group that don't fit, where all but any one of them do."""
        core = group
        # Those that have the most hours to begin in are the first to be left out.
        for _, job in sorted([(found[one][0] - found[one][1], one) for one in group]):
            rest = tuple([other for other in core if other != job])
            if self.fits.starts(rest, found) is None:
                core = rest
        return core

    def _next_split(self, core, found):
        """The job and the hour of the next split: a piece is split off from that of the core that may end last.

        As splits go on from the last hours, many ways lead to the same windows, for which a tree is known then.
        """
        _, jobs, _ = self.floor
        loose = [job for job in core if found[job][0] < found[job][1]]
        _, width, job = min([(-found[one][1] - jobs[one][0], found[one][1] - found[one][0], one) for one in loose])
        first, last = found[job]
        hours, _ = jobs[job]
        # In a piece of as many hours as the job has, it is surely at work in one hour.
        pieces = width // hours + 1
        if pieces == 1:
            return job, first + width // 2
        if pieces > MOST_PIECES:
            return job, first + pieces // 2 * hours - 1
        return job, last - hours

    def _cut(self, own):
        """The own windows without what leaves shut at once, the cuts of this, and a leaf or None.

        A cut is (word, job, hour, window, leaf): the leaf shuts that choice, the window was the job's ahead of it.
        """
        cuts = []
        while True:
            found = narrowed(self.floor, own)
            end, spots = self._leaf_or_spots(own, found)
            if end is not None or not spots:
                return own, cuts, end
            for word, job in spots:
                hour, stretch = spots[(word, job)]
                first, last = narrowed(self.floor, own)[job]
                # Another cut may have cut off as much.
                if first <= hour < last:
                    leaf = self.leaves.leaf(chosen(own, (word, job, hour)), stretch)
                    cuts.append((word, job, hour, own[job], leaf))
                    own = chosen(own, (OTHER[word], job, hour))

    def _leaf_or_spots(self, own, found):
        """A leaf for the own windows, or None, and the cuts that may be made."""
        crews, _, _ = self.floor
        if any([first > last for first, last in found]):
            return self.leaves.leaf(own, None), {}
        spots = {}
        for crew, size in enumerate(crews):
            stretch, cuts = strain(crew, size, self.members[crew], found)
            if stretch is not None:
                return self.leaves.leaf(own, stretch), {}
            spots.update(cuts)
        return None, spots


def _members(jobs, crew):
    return [(job, hours, needs[crew]) for job, (hours, needs) in enumerate(jobs) if needs[crew] > 0]


def _lie_within(own, wide):
    for (first, last), (low, high) in zip(own, wide):
        if first < low or last > high:
            return False
    return True


def _behind_cut(word, job, hour, before, leaf, end):
    """The end of the cut and what is behind it, or this alone where it doesn't need the cut."""
    first, last = end[1][job]
    if word == "early":
        return joined(job, hour, leaf, end) if first > before[0] else end
    return joined(job, hour, end, leaf) if last < before[1] else end
