"""Windows: for each job a pair (first, last) of hours, by a limit and choices."""


def own_windows(floor, limit, choices):
    """For each job its window by the limit and by the choices of this job alone."""
    _, jobs, _ = floor
    own = [(0, limit - hours) for hours, _ in jobs]
    for choice in choices:
        own = chosen(own, choice)
    return own


def windows(floor, limit, choices):
    """For each job its window by the limit and the choices, narrowed by orders."""
    return narrowed(floor, own_windows(floor, limit, choices))


def within(window, hours, begin, end):
    """How many hours of a job of that window have to lie in the stretch from begin up to end."""
    first, last = window
    return min(shared(first, hours, begin, end), shared(last, hours, begin, end))


def asked(floor, found, crew, begin, end):
    """How much of the crew the jobs of those windows have to ask for in the stretch."""
    crews, jobs, _ = floor
    if not 0 <= crew < len(crews):
        return 0
    return sum([needs[crew] * within(window, hours, begin, end) for window, (hours, needs) in zip(found, jobs)])


def chosen(own, choice):
    """The own windows where one choice more is made."""
    word, job, hour = choice
    # A choice of a job that isn't there is none, so no window is narrower by it.
    return [_cut(word, window, hour) if at == job else window for at, window in enumerate(own)]


def narrowed(floor, own):
    """The own windows narrowed by orders."""
    _, jobs, orders = floor
    firsts = [first for first, _ in own]
    lasts = [last for _, last in own]
    # No chain has more jobs than there are, so that many rounds reach both its ends.
    for _ in jobs:
        before = (list(firsts), list(lasts))
        for a, b in orders:
            firsts[b] = max(firsts[b], firsts[a] + jobs[a][0])
        # Lasts are handed on from behind, so going through the orders from behind takes fewer rounds.
        for a, b in orders[::-1]:
            lasts[a] = min(lasts[a], lasts[b] - jobs[a][0])
        if (firsts, lasts) == before:
            break
    return list(zip(firsts, lasts))


def shared(start, hours, begin, end):
    """How many hours of a job that begins at the start lie in the stretch."""
    return max(0, min(start + hours, end) - max(start, begin))


def _cut(word, window, hour):
    first, last = window
    if word == "early":
        return (first, min(last, hour))
    return (max(first, hour + 1), last)
