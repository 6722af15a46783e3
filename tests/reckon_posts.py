"""What the document says of posts, jobs and duties, reckoned in the plainest way."""

import itertools


def is_numbers(value, low, high, bound):
    if type(value) is not tuple or not low <= len(value) <= high:
        return False
    return all(type(number) is int and 0 <= number <= bound for number in value)


def fillings(skills, posts):
    """All tuples of a person for each post who can do it, nobody twice, ascending."""
    return [people for people in itertools.permutations(range(len(skills)), len(posts))
            if all(number in skills[person] for person, number in zip(people, posts))]


def short_posts(skills, posts):
    """All ascending tuples of places that are more than the people who can do one of them or more."""
    found = []
    for many in range(len(posts) + 1):
        for places in itertools.combinations(range(len(posts)), many):
            asked = {posts[place] for place in places}
            if len(places) > sum(bool(asked & set(person)) for person in skills):
                found.append(places)
    return found


def random_skills(source, most=6, numbers=10):
    chance = source.choice((0.1, 0.3, 0.5))
    return tuple(tuple(number for number in range(numbers) if source.random() < chance)
                 for _ in range(source.randint(1, most)))


def random_posts(source, most=6, numbers=10):
    return tuple(source.randrange(numbers) for _ in range(source.randint(0, most)))
