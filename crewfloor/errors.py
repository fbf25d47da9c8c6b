"""The errors of the package."""


class FloorError(ValueError):
    """What was handed in is refused; the classes below tell why."""


class BadCrew(FloorError):
    """The crew with the number `at` is no good, is missing, or is one too many."""

    def __init__(self, at):
        super().__init__(f"crew {at} is refused")
        self.at = at


class BadJob(FloorError):
    """The job with the number `at` is no good, is missing, or is one too many."""

    def __init__(self, at):
        super().__init__(f"job {at} is refused")
        self.at = at


class BadOrder(FloorError):
    """The order with the number `at` is no good, or is one too many."""

    def __init__(self, at):
        super().__init__(f"order {at} is refused")
        self.at = at


class Ring(FloorError):
    """An order leads from each of the jobs to the next one, and from the last to the first."""

    def __init__(self, jobs):
        super().__init__(f"orders lead in a ring through the jobs {jobs}")
        self.jobs = list(jobs)


class NoRow(FloorError):
    """The row hasn't each job just once, or has one ahead of what it follows."""
