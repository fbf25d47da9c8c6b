"""The points of the document in their plainest words, slow as they are, and floors to ask about."""

import itertools

from crewfloor.plans import laid, length


def own_windows_plainly(floor, limit, choices):
    found = []
    for job, (hours, _) in enumerate(floor[1]):
        first = max([0] + [hour + 1 for word, k, hour in choices if word == "late" and k == job])
        last = min([limit - hours] + [hour for word, k, hour in choices if word == "early" and k == job])
        found.append((first, last))
    return found


def windows_plainly(floor, limit, choices):
    """Narrows by one hour at a time, of one job after another, until nothing changes."""
    jobs, orders = floor[1], floor[2]
    found = own_windows_plainly(floor, limit, choices)
    changed = True
    while changed:
        changed = False
        for a, b in orders:
            if found[b][0] < found[a][0] + jobs[a][0]:
                found[b] = (found[b][0] + 1, found[b][1])
                changed = True
            if found[a][1] > found[b][1] - jobs[a][0]:
                found[a] = (found[a][0], found[a][1] - 1)
                changed = True
    return found


def hours_in(start, hours, begin, end):
    return len([hour for hour in range(start, start + hours) if begin <= hour < end])


def within_plainly(window, hours, begin, end):
    return min(hours_in(window[0], hours, begin, end), hours_in(window[1], hours, begin, end))


def is_number_plainly(thing):
    return type(thing) is int


def is_tree_plainly(floor, limit, choices, thing):
    crews, jobs, orders = floor
    if type(thing) is not tuple or not thing:
        return False
    if thing[0] == "chain" and len(thing) == 2:
        row = thing[1]
        if type(row) is not tuple or not row or not all(is_number_plainly(job) for job in row):
            return False
        if not all(0 <= job < len(jobs) for job in row):
            return False
        if not all(step in orders for step in zip(row, row[1:])):
            return False
        own = own_windows_plainly(floor, limit, choices)
        return own[row[0]][0] + sum(jobs[job][0] for job in row[:-1]) > own[row[-1]][1]
    if thing[0] == "stretch" and len(thing) == 4:
        if not all(is_number_plainly(part) for part in thing[1:]):
            return False
        crew, begin, end = thing[1:]
        if not 0 <= crew < len(crews) or not 0 <= begin < end:
            return False
        found = windows_plainly(floor, limit, choices)
        told = sum(needs[crew] * within_plainly(found[job], hours, begin, end)
                   for job, (hours, needs) in enumerate(jobs))
        return told > crews[crew] * (end - begin)
    if thing[0] == "split" and len(thing) == 5:
        word, job, hour, early, late = thing
        if not is_number_plainly(job) or not is_number_plainly(hour) or job not in range(len(jobs)):
            return False
        return (is_tree_plainly(floor, limit, choices + [("early", job, hour)], early)
                and is_tree_plainly(floor, limit, choices + [("late", job, hour)], late))
    return False


def least_length_plainly(floor):
    """The least length of all rows of jobs that may be laid."""
    jobs, orders = floor[1], floor[2]
    rows = itertools.permutations(range(len(jobs)))
    good = [list(row) for row in rows if all(row.index(a) < row.index(b) for a, b in orders)]
    return min(length(floor, laid(floor, row)) for row in good)


def floor_by(rng, many, most_hours, crews, most_size, steps):
    """A floor of so many jobs and crews; steps is in how many pairs of ten an order leads from one to the other."""
    sizes = tuple(rng.randint(1, most_size) for _ in range(crews))
    jobs = tuple((rng.randint(1, most_hours), tuple(rng.randint(0, size) for size in sizes)) for _ in range(many))
    row = list(range(many))
    rng.shuffle(row)
    orders = [pair for pair in itertools.combinations(row, 2) if rng.randrange(10) < steps]
    return (sizes, jobs, tuple(orders[:40]))


def turned_about(floor):
    crews, jobs, orders = floor
    return (crews, jobs, tuple((b, a) for a, b in orders))
