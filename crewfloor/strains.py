"""Stretches in which a crew is short, or would be short if a job began early or late."""

from crewfloor.windows import shared


def strain(crew, size, members, found):
    """A stretch in which the crew is short, or None, and cuts by other stretches.

    Members are the jobs (job, hours, need) that need the crew; found are windows, none with its first above its
    last. Cuts are by ("early", job) or ("late", job): a pair of the hour of that choice and the stretch in which
    the crew is short once it is made.
    """
    cuts = {}
    # By no choice more than this is asked for in a stretch on top.
    gains = {job: need * min(hours, found[job][1] - found[job][0]) for job, hours, need in members}
    most = max(list(gains.values()), default=0)
    begins, ends = _points(members, found)
    for begin in begins:
        ramps = _ramps(members, found, begin)
        full = sum([need * top for need, top, _ in ramps])
        for end in [hour for hour in ends if hour > begin]:
            room = size * (end - begin)
            # What is asked for never passes this sum, and the room only grows from here on.
            if room - full >= most:
                break
            left = room - _asked_up_to(end, ramps)
            if left < 0:
                return ("stretch", crew, begin, end), {}
            if left < most:
                near = [member for member in members if gains[member[0]] > left]
                _add_cuts(cuts, near, found, left, ("stretch", crew, begin, end))
    return None, cuts


def _points(members, found):
    """The hours in which stretches that matter begin and end."""
    firsts = [(found[job][0], hours) for job, hours, _ in members]
    lasts = [(found[job][1], hours) for job, hours, _ in members]
    begins = sorted({start for start, _ in firsts + lasts})
    ends = sorted({start + hours for start, hours in firsts + lasts})
    return begins, ends


def _ramps(members, found, begin):
    """Ramps (need, top, after) of the members that have to lie in stretches from begin on.

    Up to an end a member has to lie there for as many hours as there are from after to the end, but no more than
    top. So the sum for many stretches is told without going through all members by `within`.
    """
    ramps = []
    for job, hours, need in members:
        first, last = found[job]
        if first + hours > begin:
            ramps.append((need, min(hours, first + hours - begin), max(last, begin)))
    return ramps


def _asked_up_to(end, ramps):
    return sum([need * (top if end - after > top else end - after) for need, top, after in ramps if end > after])


def _add_cuts(cuts, members, found, left, stretch):
    """Add what can't begin at its first or at its last without asking for more in the stretch than is left."""
    _, _, begin, end = stretch
    for job, hours, need in members:
        first, last = found[job]
        if first >= end or last + hours <= begin or need * (end - begin) <= left:
            continue
        at_first = shared(first, hours, begin, end)
        at_last = shared(last, hours, begin, end)
        allowed = left // need + min(at_first, at_last)
        if at_first > allowed:
            hour = end - allowed - 1
            if ("early", job) not in cuts or cuts[("early", job)][0] < hour:
                cuts[("early", job)] = (hour, stretch)
        if at_last > allowed:
            hour = begin + allowed - hours
            if ("late", job) not in cuts or cuts[("late", job)][0] > hour:
                cuts[("late", job)] = (hour, stretch)
