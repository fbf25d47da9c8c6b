"""Trees: tuples that show that no plan's length is a limit or less."""

from crewfloor.floors import is_number
from crewfloor.windows import asked, chosen, narrowed, own_windows


def shut(floor, limit, tree):
    """Whether the thing is a tree for the limit and no choices."""
    # The parts wait in a list, as splits may lie deeper in one another than calls may.
    waiting = [(tree, own_windows(floor, limit, []))]
    while waiting:
        part, own = waiting.pop()
        if _is_split(floor, part):
            _, job, hour, early, late = part
            waiting.append((late, chosen(own, ("late", job, hour))))
            waiting.append((early, chosen(own, ("early", job, hour))))
        elif not (_is_shut_chain(floor, own, part) or _is_shut_stretch(floor, own, part)):
            return False
    return True


def _is_told(thing, word, many):
    """Whether the thing is a tuple of so many parts, the first of them that word."""
    if not isinstance(thing, tuple) or len(thing) != many:
        return False
    return isinstance(thing[0], str) and thing[0] == word


def _is_job(floor, thing):
    """Whether the thing is the number of a job of the floor."""
    _, jobs, _ = floor
    return is_number(thing) and 0 <= thing < len(jobs)


def _is_split(floor, thing):
    # Hours of choices are any numbers, but a number that no job has gives no choice.
    return _is_told(thing, "split", 5) and _is_job(floor, thing[1]) and is_number(thing[2])


def _is_shut_chain(floor, own, thing):
    """Whether the thing is a chain that hasn't room between its first job's first and its last one's last."""
    if not _is_told(thing, "chain", 2) or not _is_chain(floor, thing[1]):
        return False
    _, jobs, _ = floor
    chain = thing[1]
    first, _ = own[chain[0]]
    _, last = own[chain[-1]]
    return first + sum([jobs[job][0] for job in chain[:-1]]) > last


def _is_chain(floor, thing):
    _, _, orders = floor
    if not isinstance(thing, tuple) or not thing:
        return False
    if not all([_is_job(floor, job) for job in thing]):
        return False
    return all([pair in orders for pair in zip(thing, thing[1:])])


def _is_shut_stretch(floor, own, thing):
    """Whether the thing is a stretch in which more of a crew is asked for than there is."""
    if not _is_told(thing, "stretch", 4) or not all([is_number(part) for part in thing[1:]]):
        return False
    crews, _, _ = floor
    _, crew, begin, end = thing
    if not 0 <= crew < len(crews) or not 0 <= begin < end:
        return False
    return asked(floor, narrowed(floor, own), crew, begin, end) > crews[crew] * (end - begin)
