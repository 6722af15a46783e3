"""Loads of letters, and the least lead that one of two people's loads has over the other's in rotas for ever."""

from dutyweeks.checks import is_between, is_tuple
from dutyweeks.errors import InvalidLoads, InvalidNumber, Undefined
from dutyweeks.graphs import days_left, round_from
from dutyweeks.rounds import round_holds
from dutyweeks.states import begin_of, graph_of

MOST_LOAD = 9
MOST_LEAD = 6


def least_lead(task, loads, p, q):
    """The least number up to MOST_LEAD that is at least the lead of some round at any time, None if there is none."""
    _check(task, loads, p, q)
    found = _least_lasting(task, (loads, p, q))
    return None if found is None else found[0]


def lead_round(task, loads, p, q):
    """Some round that keeps the least lead, with equal sums of both people's loads in what comes again."""
    _check(task, loads, p, q)
    found = _least_lasting(task, (loads, p, q))
    if found is None:
        raise Undefined("lead")
    _, graph, days = found
    return round_from(graph, days, (begin_of(task), 0))


def _check(task, loads, p, q):
    if not _are_loads(task, loads):
        raise InvalidLoads(loads)
    for person in (p, q):
        if not _is_person(task, person):
            raise InvalidNumber(person)


def _are_loads(task, value):
    """Whether value is a load for each letter of the task."""
    letters = task.machines[0].letters
    return is_tuple(value, letters, letters) and all([is_between(load, 0, MOST_LOAD) for load in value])


def _is_person(task, value):
    return is_between(value, 0, len(task.machines) - 1)


def _least_lasting(task, pair):
    """The least lead with which rotas go on for ever, with its graph and the days left in that; None if there is none.

    With a lead that is kept for ever, a state comes again with the same lead, so the sums between are equal.
    """
    steps = graph_of(task)
    for lead in range(MOST_LEAD + 1):
        graph = _graph_within(task, steps, pair, lead)
        days = days_left(graph)
        if (begin_of(task), 0) not in days:
            return lead, graph, days
    return None


def _graph_within(task, steps, pair, lead):
    """The graph of pairs of a state and p's sum of loads less q's, as far as these differ by at most lead."""
    graph = {}
    waiting = [(begin_of(task), 0)]
    while waiting:
        node = waiting.pop()
        if node not in graph:
            state, ahead = node
            onward = [(deal, (later, ahead + _gain(pair, deal))) for deal, later in steps[state]]
            graph[node] = [step for step in onward if abs(step[1][1]) <= lead]
            waiting.extend([later for _, later in graph[node]])
    return graph


def _gain(pair, deal):
    """What p's load of the deal is more than q's, for the pair of them with the loads."""
    loads, p, q = pair
    return loads[deal[p]] - loads[deal[q]]


def lead_holds(task, loads, p, q, lead, value):
    """Whether value is a round with equal sums of both people's loads in again, that keeps the lead."""
    if not _are_loads(task, loads) or not _is_person(task, p) or not _is_person(task, q):
        return False
    if not is_between(lead, 0, MOST_LEAD) or not round_holds(task, value):
        return False
    ahead, again = value
    gains = [0]
    for deal in ahead + again:
        gains.append(gains[-1] + _gain((loads, p, q), deal))
    return gains[-1] == gains[len(ahead)] and all([abs(gain) <= lead for gain in gains])
