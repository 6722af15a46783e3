"""Wants: how many people each weekday is to have on a letter."""

from dutyweeks.checks import are_ascending, is_between, is_tuple

MOST_WEEKDAYS = 4
MOST_WANTS = 3


def is_want(value, people, letters):
    """Whether value is a want for so many people and letters."""
    if not is_tuple(value, 4, 4):
        return False
    letter, group, low, high = value
    if not is_between(letter, 0, letters - 1) or not is_tuple(group, 1, people):
        return False
    return are_ascending(group, people) and is_between(low, 0, people) and is_between(high, 0, people)


def is_weekday(value, people, letters):
    """Whether value is the wants of one weekday for so many people and letters."""
    return is_tuple(value, 0, MOST_WANTS) and all([is_want(want, people, letters) for want in value])


def is_wants(value, people, letters):
    """Whether value is wants for so many people and letters."""
    return is_tuple(value, 1, MOST_WEEKDAYS) and all([is_weekday(day, people, letters) for day in value])


def meets(want, deal):
    """Whether the deal meets the want."""
    letter, group, low, high = want
    return low <= len([person for person in group if deal[person] == letter]) <= high
