"""Floors: tuples (crews, jobs, orders)."""

from crewfloor.errors import BadCrew, BadJob, BadOrder, Ring

MOST_CREWS = 4
MOST_SIZE = 50
MOST_JOBS = 12
MOST_HOURS = 50
MOST_ORDERS = 40


def look(floor):
    """Refuse a floor that is no good, by the first refusal that is due."""
    crews, jobs, orders = floor
    _check_crews(crews)
    _check_jobs(crews, jobs)
    _check_orders(len(jobs), orders)
    _check_rings(len(jobs), orders)


def heads(floor):
    """For each job the greatest sum of hours of a chain of jobs ahead of it."""
    _, jobs, orders = floor
    return _hours_ahead(jobs, orders)


def tails(floor):
    """For each job the greatest sum of hours of a chain of jobs behind it."""
    _, jobs, orders = floor
    return _hours_ahead(jobs, [(b, a) for a, b in orders])


def is_number(thing):
    """Whether the thing is a whole number; True and False are none."""
    return isinstance(thing, int) and not isinstance(thing, bool)


def _is_from_to(thing, low, high):
    return is_number(thing) and low <= thing <= high


def _first_bad(goods, most):
    """The number of the first that is no good or is one too many, or None."""
    for at, good in enumerate(goods):
        if at == most or not good:
            return at
    return None


def _check_crews(crews):
    if not crews:
        raise BadCrew(0)
    at = _first_bad([_is_from_to(size, 1, MOST_SIZE) for size in crews], MOST_CREWS)
    if at is not None:
        raise BadCrew(at)


def _check_jobs(crews, jobs):
    if not jobs:
        raise BadJob(0)
    at = _first_bad([_is_good_job(crews, job) for job in jobs], MOST_JOBS)
    if at is not None:
        raise BadJob(at)


def _is_good_job(crews, job):
    hours, needs = job
    if not _is_from_to(hours, 1, MOST_HOURS) or len(needs) != len(crews):
        return False
    return all([_is_from_to(need, 0, size) for need, size in zip(needs, crews)])


def _check_orders(many, orders):
    at = _first_bad([_is_good_order(many, order) for order in orders], MOST_ORDERS)
    if at is not None:
        raise BadOrder(at)


def _is_good_order(many, order):
    a, b = order
    return _is_from_to(a, 0, many - 1) and _is_from_to(b, 0, many - 1) and a != b


def _check_rings(many, orders):
    left = _without_free(many, orders)
    if left:
        raise Ring(_ring_among(left, orders))


def _without_free(many, orders):
    """The jobs that are left where those that follow none of the rest are taken away, as long as there are such."""
    left = list(range(many))
    while True:
        kept = [job for job in left if _just_ahead(job, left, orders)]
        if len(kept) == len(left):
            return left
        left = kept


def _just_ahead(job, left, orders):
    """Those of the jobs left from which an order leads to the job."""
    return [a for a, b in orders if b == job and a in left]


def _ring_among(left, orders):
    """A ring of jobs, where each of those left follows one of them."""
    back = [left[0]]
    while True:
        ahead = _just_ahead(back[-1], left, orders)[0]
        if ahead in back:
            # The way was gone against the orders, so it is turned about.
            return back[back.index(ahead):][::-1]
        back.append(ahead)


def _hours_ahead(jobs, orders):
    ahead = [0] * len(jobs)
    # No chain has more jobs than there are, so that many rounds reach its end.
    for _ in jobs:
        for a, b in orders:
            ahead[b] = max(ahead[b], ahead[a] + jobs[a][0])
    return ahead
