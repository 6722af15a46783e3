"""Rotas of tasks, the states behind them, and the deals with which they go on."""

from dutyweeks.errors import InvalidRota
from dutyweeks.states import begin_of, graph_of, state_behind, steps_at, week_of


def is_rota(task, value):
    """Whether value is a rota of the task."""
    return state_behind(task, begin_of(task), value) is not None


def state_after(task, rota):
    """The state behind the rota."""
    state = state_behind(task, begin_of(task), rota)
    if state is None:
        raise InvalidRota(rota)
    return state


def moves(task, rota):
    """All pairs (deal, state) with which the rota can be gone on by a day, ascending."""
    return tuple(steps_at(task, week_of(task), state_after(task, rota)))


def reached(task):
    """The states behind all rotas, ascending."""
    return tuple(sorted(list(graph_of(task))))
