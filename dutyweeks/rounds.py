"""Rotas that are kept up for ever, as rounds, and heights, which show that there are none."""

from dutyweeks.checks import is_tuple
from dutyweeks.errors import Undefined
from dutyweeks.graphs import days_left, round_from
from dutyweeks.states import are_marks, begin_of, graph_of, state_behind, steps_at, week_of


def round_of(task):
    """Some round of the task."""
    graph = graph_of(task)
    days = days_left(graph)
    if begin_of(task) in days:
        raise Undefined("ends")
    return round_from(graph, days, begin_of(task))


def round_holds(task, value):
    """Whether value is a round of the task."""
    if not is_tuple(value, 2, 2) or value[1] == ():
        return False
    state = state_behind(task, begin_of(task), value[0])
    return state is not None and state_behind(task, state, value[1]) == state


def longest(task):
    """The greatest number of days of all rotas, None if there is no greatest one."""
    return days_left(graph_of(task)).get(begin_of(task))


def heights(task):
    """The heights of just the reached states, each with the greatest number of days that can still be dealt."""
    days = days_left(graph_of(task))
    if begin_of(task) not in days:
        raise Undefined("endless")
    return tuple(sorted([(state, days[state]) for state in days]))


def heights_hold(task, value):
    """Whether value is heights of the task."""
    if not are_marks(task, value):
        return False
    numbers = {state: number for state, number in value}
    if begin_of(task) not in numbers or any([number < 0 for _, number in value]):
        return False
    week = week_of(task)
    return all([_falls(numbers, number, steps_at(task, week, state)) for state, number in value])


def _falls(numbers, number, steps):
    """Whether all steps lead to states that have a smaller number."""
    return all([numbers.get(later, number) < number for _, later in steps])
