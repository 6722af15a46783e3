"""Rules for the row of one person, and the machines that are made of them."""

from dutyweeks.checks import is_between, is_tuple
from dutyweeks.errors import InvalidRow, InvalidRules, TooLarge
from dutyweeks.machines import MOST_STATES, Machine, check_letters, is_row
from dutyweeks.tables import BARRED, least_table

MOST_RULES = 4
LONGEST_PATTERN = 3

# The least and the greatest k of each kind of rule that has one.
BOUNDS = {"most": (1, 3), "least": (2, 3), "every": (1, 4)}

# Whether a day breaks a rule hangs on this many days ahead of it, for each kind and k.
REACH = 3


def is_rules(value, letters):
    """Whether value is a tuple of at most four rules for letters below the number letters."""
    return is_tuple(value, 0, MOST_RULES) and all([is_rule(rule, letters) for rule in value])


def is_rule(value, letters):
    """Whether value is one rule for letters below the number letters."""
    if not is_tuple(value, 2, 3) or not isinstance(value[0], str):
        return False
    if value[0] == "never":
        return len(value) == 2 and is_tuple(value[1], 1, LONGEST_PATTERN) and is_row(value[1], letters)
    if value[0] not in BOUNDS or len(value) != 3:
        return False
    low, high = BOUNDS[value[0]]
    return is_between(value[1], 0, letters - 1) and is_between(value[2], low, high)


def keeps(rules, letters, row):
    """Whether the row keeps all rules."""
    _check_rules(rules, letters)
    if not is_row(row, letters):
        raise InvalidRow(row)
    return not any([_breaks_some(rules, row[max(0, day - REACH):day + 1]) for day in range(len(row))])


def machine_of(rules, letters):
    """The least machine that lets just the rows that keep all rules."""
    _check_rules(rules, letters)
    table = least_table(_tail_table(rules, letters))
    if len(table) > MOST_STATES:
        raise TooLarge(len(table))
    return Machine(letters, table)


def _check_rules(rules, letters):
    check_letters(letters)
    if not is_rules(rules, letters):
        raise InvalidRules(rules)


def _breaks_some(rules, days):
    """Whether the last of the days breaks one of the rules."""
    return any([_breaks(rule, days) for rule in rules])


def _breaks(rule, days):
    """Whether the last of the days breaks the rule; days begins REACH days ahead of it, or with the row."""
    if rule[0] == "never":
        return days[-len(rule[1]):] == rule[1]
    kind, letter, k = rule
    if kind == "most":
        return days[-k - 1:] == (letter,) * (k + 1)
    if kind == "every":
        return len(days) >= k and letter not in days[-k:]
    ends_stretch = days[-2:-1] == (letter,) and days[-1] != letter
    return ends_stretch and days[-k - 1:-1] != (letter,) * k


def _tail_table(rules, letters):
    """A table that lets just the rows that keep the rules, with a state for each tail that such a row has.

    A tail is the last REACH days of a row, or all of it if it is shorter.
    """
    tails = [()]
    numbers = {(): 0}
    table = []
    while len(table) < len(tails):
        states = []
        for letter in range(letters):
            days = tails[len(table)] + (letter,)
            if _breaks_some(rules, days):
                states.append(BARRED)
                continue
            tail = days[-REACH:]
            if tail not in numbers:
                numbers[tail] = len(tails)
                tails.append(tail)
            states.append(numbers[tail])
        table.append(tuple(states))
    return tuple(table)
