"""Ends of trees, and how trees are put together.

Each tree goes with wide windows. Wherever all own windows lie within these, it is a tree too, but for branches in
which a job has no hour left to begin in: there `mended` puts chains. So wide windows show which choices a tree needs.
"""

from crewfloor.windows import chosen, narrowed, own_windows, within


class Leaves:
    """Makes the ends of trees for a limit."""

    def __init__(self, floor, limit):
        self.floor = floor
        self.own = own_windows(floor, limit, [])
        self.found = narrowed(floor, self.own)

    def leaf(self, own, stretch):
        """A chain where a job has no hour left to begin in, else the stretch; and its wide windows."""
        found = narrowed(self.floor, own)
        for job, (first, last) in enumerate(found):
            if first > last:
                chain = self._back(own, found, job) + self._on(own, found, job)[1:]
                return ("chain", tuple(chain)), self._wide_of_chain(own, chain)
        return stretch, self._wide_of_stretch(own, found, stretch)

    def _wide_of_chain(self, own, chain):
        a, b = chain[0], chain[-1]
        hours = self._hours_of_all_but_last(chain)
        wide = list(self.own)
        last = min(wide[b][1], own[a][0] + hours - 1)
        wide[b] = (wide[b][0], last)
        wide[a] = (max(wide[a][0], last + 1 - hours), wide[a][1])
        return wide

    def _wide_of_stretch(self, own, found, stretch):
        crews, jobs, _ = self.floor
        _, crew, begin, end = stretch
        spare = -1 - crews[crew] * (end - begin)
        parts = []
        for job, (hours, needs) in enumerate(jobs):
            asked = within(found[job], hours, begin, end)
            always = within(self.found[job], hours, begin, end)
            spare += needs[crew] * asked
            if needs[crew] > 0 and asked > always:
                parts.append((needs[crew] * (asked - always), job, asked, always))
        wide = list(self.own)
        # More is asked for than has to be, so the first few of the jobs may ask for less.
        for _, job, asked, always in sorted(parts):
            hours, needs = jobs[job]
            less = min(spare // needs[crew], asked - always)
            spare -= less * needs[crew]
            if asked - less > always:
                self._hold_first(wide, own, found, job, begin + asked - less - hours)
                self._hold_last(wide, own, found, job, end - asked + less)
        return wide

    def _hold_first(self, wide, own, found, job, first):
        """Cut the wide windows so that the job's narrowed first is no less than this one."""
        if first > self.found[job][0]:
            chain = self._back(own, found, job)
            low, high = wide[chain[0]]
            wide[chain[0]] = (max(low, first - self._hours_of_all_but_last(chain)), high)

    def _hold_last(self, wide, own, found, job, last):
        """Cut the wide windows so that the job's narrowed last is no more than this one."""
        if last < self.found[job][1]:
            chain = self._on(own, found, job)
            low, high = wide[chain[-1]]
            wide[chain[-1]] = (low, min(high, last + self._hours_of_all_but_last(chain)))

    def _back(self, own, found, job):
        """The chain up to the job that gives its narrowed first."""
        _, jobs, orders = self.floor
        chain = [job]
        while found[chain[0]][0] > own[chain[0]][0]:
            first = found[chain[0]][0]
            chain = [a for a, b in orders if b == chain[0] and found[a][0] + jobs[a][0] == first][:1] + chain
        return chain

    def _on(self, own, found, job):
        """The chain from the job on that gives its narrowed last."""
        _, jobs, orders = self.floor
        chain = [job]
        while found[chain[-1]][1] < own[chain[-1]][1]:
            last = found[chain[-1]][1] + jobs[chain[-1]][0]
            chain = chain + [b for a, b in orders if a == chain[-1] and found[b][1] == last][:1]
        return chain

    def _hours_of_all_but_last(self, chain):
        _, jobs, _ = self.floor
        return sum([jobs[job][0] for job in chain[:-1]])


def joined(job, hour, early, late):
    """The split of two trees, and its wide windows."""
    tree, wide = early
    late_tree, late_wide = late
    both = [(max(a, c), min(b, d)) for (a, b), (c, d) in zip(wide, late_wide)]
    # The choices of the split itself stand for the other two sides.
    both[job] = (wide[job][0], late_wide[job][1])
    return ("split", job, hour, tree, late_tree), both


def mended(leaves, tree):
    """The tree for no choices, with chains where a job has no hour left to begin in."""
    parts = []
    waiting = [(tree, leaves.own)]
    while waiting:
        part, own = waiting.pop()
        found = narrowed(leaves.floor, own)
        if any([first > last for first, last in found]):
            parts.append(leaves.leaf(own, None)[0])
        elif part[0] == "split":
            _, job, hour, early, late = part
            first, last = found[job]
            # A choice that leaves the job no hour is as good as shut, so the split isn't needed.
            if first > hour:
                waiting.append((late, own))
            elif last <= hour:
                waiting.append((early, own))
            else:
                parts.append(("split", job, hour))
                waiting.append((late, chosen(own, ("late", job, hour))))
                waiting.append((early, chosen(own, ("early", job, hour))))
        else:
            parts.append(part)
    return _built(parts)


def _built(parts):
    """The tree of these parts, each split ahead of its early parts and these ahead of its late ones."""
    trees = []
    for part in parts[::-1]:
        if part[0] == "split":
            early = trees.pop()
            late = trees.pop()
            trees.append((*part, early, late))
        else:
            trees.append(part)
    return trees[0]
