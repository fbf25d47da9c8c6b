"""The search for a plan of the least length."""

from crewfloor.fits import Fits
from crewfloor.floors import tails
from crewfloor.plans import laid, length
from crewfloor.refuter import Refuter


def least(floor):
    """A plan, and a tree for its length less one."""
    fits = Fits(floor)
    starts = _first_plan(floor)
    while True:
        plan, tree = Refuter(floor, length(floor, starts) - 1, fits).plan_or_tree()
        if plan is None:
            return starts, tree
        starts = plan


def _first_plan(floor):
    _, jobs, _ = floor
    # From a job's begin on there are more hours to go than from that of a job behind it, so no order is broken.
    hours_to_go = [hours + behind for (hours, _), behind in zip(jobs, tails(floor))]
    rows = sorted([(-hours, job) for job, hours in enumerate(hours_to_go)])
    return laid(floor, [job for _, job in rows])
