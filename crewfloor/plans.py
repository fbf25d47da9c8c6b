"""Plans: lists of starts, for each job the hour in which it begins."""

from crewfloor.errors import NoRow
from crewfloor.floors import is_number


def is_plan(floor, starts):
    """Whether the starts are one for each job, from 0 on, and keep all orders and sizes."""
    crews, jobs, orders = floor
    if len(starts) != len(jobs):
        return False
    if not all([is_number(start) and start >= 0 for start in starts]):
        return False
    if not all([starts[b] >= starts[a] + jobs[a][0] for a, b in orders]):
        return False
    return _keeps_sizes(crews, list(zip(starts, jobs)))


def length(floor, starts):
    """The hour by which all jobs have ended."""
    _, jobs, _ = floor
    return max(_ends(list(zip(starts, jobs))), default=0)


def at_work(floor, starts, crew, hour):
    """How many of the crew are at work in the hour."""
    crews, jobs, _ = floor
    if not 0 <= crew < len(crews):
        return 0
    return _busy(list(zip(starts, jobs)), crew, hour)


def laid(floor, row):
    """The starts where the jobs are laid one by one, in the row's order, each as early as it fits."""
    crews, jobs, orders = floor
    _check_row(len(jobs), orders, row)
    starts = {}
    for job in row:
        begin = max([0] + [starts[a] + jobs[a][0] for a, b in orders if b == job])
        placed = [(starts[other], jobs[other]) for other in starts]
        starts[job] = _least_hour(crews, placed, jobs[job], begin)
    return [starts[k] for k in range(len(jobs))]


def _check_row(many, orders, row):
    if not all([is_number(job) for job in row]) or sorted(row) != list(range(many)):
        raise NoRow("the row hasn't each job just once")
    for a, b in orders:
        if row.index(b) < row.index(a):
            raise NoRow(f"the row has job {b} ahead of job {a}, which it follows")


def _least_hour(crews, placed, job, begin):
    """The least hour from begin on in which the job fits beside those placed, pairs (start, job)."""
    # Only where a job ends may one fit that didn't fit an hour earlier.
    hours = [begin] + [end for end in _ends(placed) if end > begin]
    return min([hour for hour in hours if _keeps_sizes(crews, placed + [(hour, job)])])


def _keeps_sizes(crews, placed):
    # The first hour in which too many are at work is one in which a job begins.
    for hour, _ in placed:
        for crew, size in enumerate(crews):
            if _busy(placed, crew, hour) > size:
                return False
    return True


def _busy(placed, crew, hour):
    return sum([needs[crew] for start, (hours, needs) in placed if start <= hour < start + hours])


def _ends(placed):
    return [start + hours for start, (hours, _) in placed]
