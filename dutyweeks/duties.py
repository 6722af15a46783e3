"""Jobs of a day, the duties into which they are strung, for the fewest crews or for the least cost."""

from dutyweeks.checks import are_ascending, is_between, is_integer, is_tuple, rises
from dutyweeks.errors import InvalidJobs, InvalidNumber, InvalidPart

MOST_JOBS = 8
MOST_TIME = 999
MOST_REST = 99
MOST_PAY = 999
MOST_IDLE = 9

# Stands for the job ahead of one that begins a duty.
NO_JOB = -1


def is_duties(jobs, rest, value):
    """Whether value is duties for the jobs with this rest."""
    _check(jobs, rest)
    return _are_duties(jobs, rest, value)


def crews(jobs, rest):
    """The least number of duties."""
    return len(apart_jobs(jobs, rest))


def duties(jobs, rest):
    """Some duties, as few as can be: each job goes into the first duty that it can follow, by its beginning.

    Where it can follow none, it and the last jobs of all duties are apart, so as many duties are needed.
    """
    _check(jobs, rest)
    strings = []
    for begin, job in sorted([(jobs[k][0], k) for k in range(len(jobs))]):
        free = [string for string in strings if jobs[string[-1]][1] + rest <= begin]
        if free:
            free[0].append(job)
        else:
            strings.append([job])
    return _in_order(strings)


def _in_order(strings):
    return tuple(sorted([tuple(string) for string in strings]))


def apart_jobs(jobs, rest):
    """The numbers of as many jobs as there must be duties, any two of them apart.

    Jobs of which any two are apart all go on, or rest, when the last of them begins; and all that do so are apart.
    """
    _check(jobs, rest)
    groups = [_going_on(jobs, rest, begin) for begin, _ in jobs]
    return max(groups, key=len, default=())


def _going_on(jobs, rest, time):
    """The numbers of the jobs that have begun at that time, and of which the end and the rest are not over then."""
    return tuple([k for k in range(len(jobs)) if jobs[k][0] <= time < jobs[k][1] + rest])


def apart_holds(jobs, rest, many, value):
    """Whether value is the numbers of so many jobs, any two of them apart."""
    if not _are_jobs(jobs) or not _is_rest(rest) or not is_integer(many):
        return False
    if not are_ascending(value, len(jobs)) or len(value) != many:
        return False
    return not any([_can_follow(jobs, rest, one, other) for one in value for other in value])


def _can_follow(jobs, rest, job, ahead):
    """Whether the job begins at the end of the one ahead and the rest behind it, or later."""
    return jobs[job][0] >= jobs[ahead][1] + rest


def _check(jobs, rest):
    if not _are_jobs(jobs):
        raise InvalidJobs(jobs)
    if not _is_rest(rest):
        raise InvalidNumber(rest)


def _are_jobs(value):
    return is_tuple(value, 0, MOST_JOBS) and all([_is_job(job) for job in value])


def _is_job(value):
    if not is_tuple(value, 2, 2) or not all([is_between(time, 0, MOST_TIME) for time in value]):
        return False
    return value[0] < value[1]


def _is_rest(value):
    return is_between(value, 0, MOST_REST)


def _are_duties(jobs, rest, value):
    """Whether value is an ascending tuple of duties in which each job comes just once."""
    if not is_tuple(value, 0, len(jobs)) or not all([_is_duty(jobs, rest, duty) for duty in value]):
        return False
    return rises(value) and sorted([job for duty in value for job in duty]) == list(range(len(jobs)))


def _is_duty(jobs, rest, value):
    if not is_tuple(value, 1, len(jobs)) or not all([is_between(job, 0, len(jobs) - 1) for job in value]):
        return False
    return all([_can_follow(jobs, rest, value[k], value[k - 1]) for k in range(1, len(value))])


def cost_of(jobs, rest, pay, idle, value):
    """What the duties cost."""
    _check_costs(jobs, rest, pay, idle)
    if not _are_duties(jobs, rest, value):
        raise InvalidPart(value)
    waits = [_wait(jobs, duty[k], duty[k - 1]) for duty in value for k in range(1, len(duty))]
    return pay * len(value) + idle * sum(waits)


def _check_costs(jobs, rest, pay, idle):
    _check(jobs, rest)
    if not _is_pay(pay):
        raise InvalidNumber(pay)
    if not _is_idle(idle):
        raise InvalidNumber(idle)


def _is_pay(value):
    return is_between(value, 0, MOST_PAY)


def _is_idle(value):
    return is_between(value, 0, MOST_IDLE)


def _wait(jobs, job, ahead):
    """The time between the end of the one ahead and the beginning of the job."""
    return jobs[job][0] - jobs[ahead][1]


def cheapest(jobs, rest, pay, idle):
    """Some duties that cost the least."""
    _check_costs(jobs, rest, pay, idle)
    ahead = _cheapest_ahead(jobs, rest, pay, idle)
    strings = []
    for job in range(len(jobs)):
        if ahead[job] == NO_JOB:
            strings.append(_string_from(ahead, job))
    return _in_order(strings)


def _string_from(ahead, job):
    """The job, the one that is behind it in its duty, and so on."""
    string = [job]
    while string[-1] in ahead:
        string.append(ahead.index(string[-1]))
    return string


def _cheapest_ahead(jobs, rest, pay, idle):
    """For each job the one that is ahead of it in the cheapest duties, or NO_JOB.

    Job by job the cheapest way is kept for each set of jobs that another one follows already, told as a sum of powers.
    """
    ways = {0: (0, ())}
    for job in range(len(jobs)):
        further = {}
        for taken in ways:
            cost, ahead = ways[taken]
            _keep_cheaper(further, taken, (cost + pay, ahead + (NO_JOB,)))
            for k in range(len(jobs)):
                if (taken >> k) & 1 == 0 and _can_follow(jobs, rest, job, k):
                    way = (cost + idle * _wait(jobs, job, k), ahead + (k,))
                    _keep_cheaper(further, taken | (1 << k), way)
        ways = further
    return min(ways.values())[1]


def _keep_cheaper(ways, taken, way):
    """Keep the way for what is taken, if there is none yet that costs as little."""
    ways[taken] = min(ways.get(taken, way), way)


def job_prices(jobs, rest, pay, idle):
    """Prices, the values and uses of the jobs, that show that no duties cost less than the cheapest ones."""
    _check_costs(jobs, rest, pay, idle)
    many = len(jobs)
    levels = _levels(2 * many + 1, _bounds(jobs, rest, pay, idle))
    ground = levels[2 * many]
    prices = tuple([level - ground for level in levels[:2 * many]])
    return prices[:many], prices[many:]


def _bounds(jobs, rest, pay, idle):
    """Triples (one, other, more): the level of one is at most that of the other and so much more.

    The levels are the values of all jobs, then their uses, then the ground, which stands for 0. What the cheapest
    duties pay for has a bound from below too, so that values less uses come to just what these cost.
    """
    many = len(jobs)
    ground = 2 * many
    ahead = _cheapest_ahead(jobs, rest, pay, idle)
    bounds = []
    for job in range(many):
        bounds.append((job, ground, pay))
        bounds.append((ground, many + job, 0))
        for k in range(many):
            if _can_follow(jobs, rest, job, k):
                bounds.append((job, many + k, idle * _wait(jobs, job, k)))
        if ahead[job] == NO_JOB:
            bounds.append((ground, job, -pay))
        else:
            bounds.append((many + ahead[job], job, -idle * _wait(jobs, job, ahead[job])))
        if job not in ahead:
            bounds.append((many + job, ground, 0))
    return bounds


def _levels(many, bounds):
    """So many levels that keep all bounds; there are such, since what the bounds are made of is the cheapest."""
    levels = [0] * many
    falling = True
    while falling:
        falling = False
        for one, other, more in bounds:
            if levels[one] > levels[other] + more:
                levels[one] = levels[other] + more
                falling = True
    return levels


def job_prices_hold(jobs, rest, pay, idle, cost, value):
    """Whether value is prices of the jobs that come to the cost, so that no duties cost less."""
    if not _are_jobs(jobs) or not _is_rest(rest) or not _is_pay(pay) or not _is_idle(idle):
        return False
    if not is_tuple(value, 2, 2) or not all([_are_integers(some, len(jobs)) for some in value]):
        return False
    values, uses = value
    if not is_integer(cost) or cost < 0 or cost != sum(values) - sum(uses):
        return False
    if any([use < 0 for use in uses]) or any([worth > pay for worth in values]):
        return False
    return all([
        values[job] <= uses[k] + idle * _wait(jobs, job, k)
        for job in range(len(jobs)) for k in range(len(jobs)) if _can_follow(jobs, rest, job, k)
    ])


def _are_integers(value, many):
    """Whether value is a tuple of so many integers."""
    return is_tuple(value, many, many) and all([is_integer(number) for number in value])
