"""What the document says of posts, jobs and duties, reckoned in the plainest way."""

import itertools


def is_numbers(value, low, high, bound):
    if type(value) is not tuple or not low <= len(value) <= high:
        return False
    return all(type(number) is int and 0 <= number <= bound for number in value)


def fillings(skills, posts):
    """All tuples of a person for each post who can do it, nobody twice, ascending."""
    return [people for people in itertools.permutations(range(len(skills)), len(posts))
            if all(number in skills[person] for person, number in zip(people, posts))]


def short_posts(skills, posts):
    """All ascending tuples of places that are more than the people who can do one of them or more."""
    found = []
    for many in range(len(posts) + 1):
        for places in itertools.combinations(range(len(posts)), many):
            asked = {posts[place] for place in places}
            if len(places) > sum(bool(asked & set(person)) for person in skills):
                found.append(places)
    return found


def random_skills(source, most=6, numbers=10):
    chance = source.choice((0.1, 0.3, 0.5))
    return tuple(tuple(number for number in range(numbers) if source.random() < chance)
                 for _ in range(source.randint(1, most)))


def random_posts(source, most=6, numbers=10):
    return tuple(source.randrange(numbers) for _ in range(source.randint(0, most)))


def follows(jobs, rest, job, ahead):
    return jobs[job][0] >= jobs[ahead][1] + rest


def partitions(members):
    """All ways to put the members into groups, each as a list of lists."""
    if not members:
        return [[]]
    found = []
    for groups in partitions(members[:-1]):
        found.append(groups + [[members[-1]]])
        for k, group in enumerate(groups):
            found.append(groups[:k] + [group + [members[-1]]] + groups[k + 1:])
    return found


def all_duties(jobs, rest):
    """All duties for the jobs: each way to string them, every job once."""
    order = sorted(range(len(jobs)), key=lambda job: jobs[job])
    found = []
    for groups in partitions(order):
        if all(follows(jobs, rest, group[k], group[k - 1]) for group in groups for k in range(1, len(group))):
            found.append(tuple(sorted(tuple(group) for group in groups)))
    return found


def all_apart(jobs, rest):
    """All ascending tuples of jobs of which no two can follow each other."""
    return [some for many in range(len(jobs) + 1) for some in itertools.combinations(range(len(jobs)), many)
            if not any(follows(jobs, rest, one, other) for one in some for other in some)]


def cost(jobs, pay, idle, value):
    waits = [jobs[duty[k]][0] - jobs[duty[k - 1]][1] for duty in value for k in range(1, len(duty))]
    return pay * len(value) + idle * sum(waits)


def prices(jobs, rest, pay, idle, cost_, value):
    """Whether value is prices that come to the cost; all but value are taken to be such."""
    if type(value) is not tuple or len(value) != 2:
        return False
    for some in value:
        if type(some) is not tuple or len(some) != len(jobs) or not all(type(number) is int for number in some):
            return False
    values, uses = value
    if any(use < 0 for use in uses) or any(worth > pay for worth in values) or sum(values) - sum(uses) != cost_:
        return False
    numbers = range(len(jobs))
    return all(values[job] <= uses[k] + idle * (jobs[job][0] - jobs[k][1])
               for job in numbers for k in numbers if follows(jobs, rest, job, k))


def random_jobs(source, most=6):
    latest = source.choice((6, 12, 30, 999))
    found = []
    for _ in range(source.randint(0, most)):
        begin = source.randrange(latest)
        found.append((begin, source.randint(begin + 1, min(latest, begin + max(2, latest // 3)))))
    return tuple(found)
