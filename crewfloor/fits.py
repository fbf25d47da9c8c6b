"""Whether some of a floor's jobs fit into windows."""


class Fits:
    """Tells whether groups of jobs of a floor fit into windows, and keeps what it has told."""

    def __init__(self, floor):
        self.floor = floor
        self.lags = _lags(floor)
        self.told = {}

    def starts(self, group, found):
        """A dict of starts of the jobs of the group, a tuple, within the windows found, or None."""
        key = (group, tuple([found[job] for job in group]))
        if key not in self.told:
            trial = Trial(self.floor, self.lags, {job: found[job][1] for job in group})
            self.told[key] = trial.starts({job: found[job][0] for job in group}, [], {})
        return self.told[key]


class Trial:
    """A search for starts up to the lasts: jobs begin one by one, each no earlier than those ahead of it."""

    def __init__(self, floor, lags, lasts):
        self.crews, self.jobs, _ = floor
        self.lags = lags
        self.lasts = lasts
        self.seen = {}

    def starts(self, firsts, busy, begun):
        """The starts of all, or None.

        Firsts are the hours from which on those that are left may begin; busy are pairs (end, job) of those that
        may still be at work then; begun are the starts so far.
        """
        if not firsts:
            return begun
        # Nothing else of those that have begun matters to the others.
        key = (tuple(list(firsts.items())), tuple(busy))
        if key in self.seen:
            return None
        self.seen[key] = True
        for start, job in self._next_ones(firsts, busy):
            still = [(end, other) for end, other in busy if end > start] + [(start + self.jobs[job][0], job)]
            found = self.starts(self._firsts_behind(firsts, start, job), sorted(still), {**begun, job: start})
            if found is not None:
                return found
        return None

    def _next_ones(self, firsts, busy):
        """Pairs (start, job) of those that may begin next; none where not all that are left can end in time."""
        ready = []
        for job in firsts:
            start = self._least_start(job, firsts[job], busy)
            if start > self.lasts[job]:
                return []
            if not any([(other, job) in self.lags for other in firsts]):
                ready.append((start, job))
        if self._is_short(firsts, busy):
            return []
        # One that has ended by the time when another one begins may as well go ahead of it.
        soonest = min([start + self.jobs[job][0] for start, job in ready])
        return sorted([(start, job) for start, job in ready if start < soonest])

    def _is_short(self, firsts, busy):
        """Whether a crew hasn't hours enough for all that are left."""
        begin = min(list(firsts.values()))
        end = max([self.lasts[job] + self.jobs[job][0] for job in firsts])
        for crew, size in enumerate(self.crews):
            asked = sum([self.jobs[job][0] * self.jobs[job][1][crew] for job in firsts])
            taken = sum([(min(until, end) - begin) * self.jobs[job][1][crew] for until, job in busy if until > begin])
            if asked + taken > size * (end - begin):
                return True
        return False

    def _least_start(self, job, hour, busy):
        """The least hour from that one on in which the job fits beside those that are busy."""
        # The busy ones only become fewer, so a job that fits in an hour fits behind it too.
        for begin in [hour] + [end for end, _ in busy if end > hour]:
            if self._is_fit(job, begin, busy):
                return begin
        return hour

    def _is_fit(self, job, hour, busy):
        beside = [self.jobs[other][1] for end, other in busy if end > hour]
        needs = self.jobs[job][1]
        for crew, size in enumerate(self.crews):
            if needs[crew] + sum([taken[crew] for taken in beside]) > size:
                return False
        return True

    def _firsts_behind(self, firsts, start, job):
        lags = self.lags
        return {other: max(firsts[other], start + lags.get((job, other), 0)) for other in firsts if other != job}


def _lags(floor):
    """For pairs of jobs where orders lead from one to the other: the least hours from its begin to the other's."""
    _, jobs, orders = floor
    lags = {(a, b): jobs[a][0] for a, b in orders}
    # No chain has more jobs than there are, so that many rounds reach its end.
    for _ in jobs:
        for a, b in list(lags):
            for c, d in orders:
                if c == b:
                    lags[(a, d)] = max(lags.get((a, d), 0), lags[(a, b)] + jobs[b][0])
    return lags
