"""Posts of a day, the people who can do them, and the posts that are too many for these people."""

from itertools import combinations

from dutyweeks.checks import are_ascending, is_between, is_tuple
from dutyweeks.errors import InvalidPosts, InvalidSkills, Undefined

MOST_PEOPLE = 6
MOST_POSTS = 6
MOST_NUMBER = 9


def filled(skills, posts):
    """A person for each post who can do it, nobody twice, of all such the first in dictionary order."""
    _check(skills, posts)
    people = _first_filling(skills, posts, ())
    if people is None:
        raise Undefined("posts")
    return people


def _first_filling(skills, posts, people):
    """The first filling that begins with these people, None if there is none."""
    if len(people) == len(posts):
        return people
    for person in range(len(skills)):
        if person not in people and posts[len(people)] in skills[person]:
            whole = _first_filling(skills, posts, people + (person,))
            if whole is not None:
                return whole
    return None


def short_posts(skills, posts):
    """Places of posts that are more than the people who can do one of them or more."""
    _check(skills, posts)
    for many in range(1, len(posts) + 1):
        for places in combinations(range(len(posts)), many):
            if _are_short(skills, posts, places):
                return places
    raise Undefined("filled")


def short_holds(skills, posts, value):
    """Whether value is short posts."""
    if not _are_skills(skills) or not _are_posts(posts):
        return False
    return are_ascending(value, len(posts)) and _are_short(skills, posts, value)


def _are_short(skills, posts, places):
    """Whether the places are more than the people who can do one of these posts or more."""
    asked = [posts[place] for place in places]
    return len(places) > len([person for person in skills if any([number in asked for number in person])])


def _check(skills, posts):
    if not _are_skills(skills):
        raise InvalidSkills(skills)
    if not _are_posts(posts):
        raise InvalidPosts(posts)


def _are_skills(value):
    return is_tuple(value, 1, MOST_PEOPLE) and all([are_ascending(person, MOST_NUMBER + 1) for person in value])


def _are_posts(value):
    return is_tuple(value, 0, MOST_POSTS) and all([is_between(number, 0, MOST_NUMBER) for number in value])
