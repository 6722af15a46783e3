"""States of tasks, reached or not, and the deals that lead from one to the next."""

from dutyweeks.checks import is_between, is_integer, is_tuple, rises
from dutyweeks.tables import BARRED
from dutyweeks.tasks import fits, is_deal


def begin_of(task):
    """The state with which the task begins."""
    return (0, (0,) * len(task.machines))


def is_state(task, value):
    """Whether value is a state of the task, reached or not."""
    if not is_tuple(value, 2, 2) or not is_between(value[0], 0, len(task.wants) - 1):
        return False
    states = value[1]
    if not is_tuple(states, len(task.machines), len(task.machines)):
        return False
    return all([is_between(states[k], 0, len(task.machines[k]) - 1) for k in range(len(states))])


def are_marks(task, value):
    """Whether value is an ascending tuple of pairs of a state of the task and an integer, no two of one state."""
    if not isinstance(value, tuple) or not all([_is_mark(task, pair) for pair in value]):
        return False
    return rises([pair[0] for pair in value])


def _is_mark(task, value):
    return is_tuple(value, 2, 2) and is_state(task, value[0]) and is_integer(value[1])


def week_of(task):
    """For each weekday the list of all deals that meet its wants, ascending."""
    deals = [()]
    for _ in task.machines:
        deals = [deal + (letter,) for deal in deals for letter in range(task.machines[0].letters)]
    return [[deal for deal in deals if fits(task, weekday, deal)] for weekday in range(len(task.wants))]


def state_behind(task, state, value):
    """The state behind the deals of value, dealt from the state on; None if value is no tuple of deals that can be."""
    if not isinstance(value, tuple):
        return None
    now = state
    for deal in value:
        if not is_deal(task, deal) or not fits(task, now[0], deal):
            return None
        now = _led_to(task, now, deal)
        if now is None:
            return None
    return now


def steps_at(task, week, state):
    """All pairs of a deal of the week that can be dealt at the state and the state that it leads to, ascending."""
    steps = [(deal, _led_to(task, state, deal)) for deal in week[state[0]]]
    return [step for step in steps if step[1] is not None]


def _led_to(task, state, deal):
    """The state to which the deal leads, None if a machine bars its letter; the wants are not looked at."""
    weekday, states = state
    later = tuple([machine.table[now][letter] for machine, now, letter in zip(task.machines, states, deal)])
    if BARRED in later:
        return None
    return ((weekday + 1) % len(task.wants), later)


def graph_of(task):
    """For each reached state its steps, as steps_at tells them."""
    week = week_of(task)
    graph = {}
    waiting = [begin_of(task)]
    while waiting:
        state = waiting.pop()
        if state not in graph:
            graph[state] = steps_at(task, week, state)
            waiting.extend([later for _, later in graph[state]])
    return graph
