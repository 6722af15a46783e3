"""Dislikes, the least average of them in rounds, and the prices that show that none is less."""

from dutyweeks.checks import is_between, is_ratio, is_tuple, lowest
from dutyweeks.errors import InvalidDislikes, Undefined
from dutyweeks.graphs import days_left, round_from, way_to
from dutyweeks.rounds import round_holds
from dutyweeks.states import are_marks, begin_of, graph_of

MOST_DISLIKE = 99


def is_dislikes(task, value):
    """Whether value is dislikes for the task."""
    people = len(task.machines)
    return is_tuple(value, people, people) and all([_is_person(task, person) for person in value])


def _is_person(task, value):
    weekdays = len(task.wants)
    return is_tuple(value, weekdays, weekdays) and all([_is_weekday(task, weekday) for weekday in value])


def _is_weekday(task, value):
    letters = task.machines[0].letters
    return is_tuple(value, letters, letters) and all([is_between(number, 0, MOST_DISLIKE) for number in value])


def dislikes_of(dislikes, weekday, deal):
    """The dislikes that the deal has on the weekday."""
    return sum([person[weekday][letter] for person, letter in zip(dislikes, deal)])


def least_mean(task, dislikes):
    """The least average of dislikes of all rounds."""
    return _mean_of(task, _costs_of(_endless_graph(task, dislikes), dislikes))


def mean_paper(task, dislikes):
    """A round that has the least average, and prices that show that none has less."""
    graph = _endless_graph(task, dislikes)
    costs = _costs_of(graph, dislikes)
    costs = _costs_less_mean(costs, _mean_of(task, costs))
    prices = _prices_of(costs)
    ahead, again = _least_round(task, graph, costs, prices)
    return ahead, again, tuple(sorted([(state, prices[state]) for state in prices]))


def _least_round(task, graph, costs, prices):
    """A round of steps that come to just the price of their state.

    With the prices taken off, such a round costs nothing, so its average is the least one.
    """
    tight = {node: _tight_steps(graph[node], costs[node], prices, prices[node]) for node in graph}
    days = days_left(tight)
    deals, state = way_to(graph, begin_of(task), [node for node in graph if node not in days])
    ahead, again = round_from(tight, days, state)
    return deals + ahead, again


def _tight_steps(steps, costs, prices, price):
    return [step for step, (cost, later) in zip(steps, costs) if cost + prices[later] == price]


def _endless_graph(task, dislikes):
    """The graph of the task; the errors of least_mean and mean_paper are raised here."""
    if not is_dislikes(task, dislikes):
        raise InvalidDislikes(dislikes)
    graph = graph_of(task)
    if begin_of(task) in days_left(graph):
        raise Undefined("ends")
    return graph


def _costs_of(graph, dislikes):
    """For each step of the graph the dislikes of its deal, and the state that it leads to."""
    return {
        state: [(dislikes_of(dislikes, state[0], deal), later) for deal, later in graph[state]] for state in graph
    }


def _mean_of(task, costs):
    """The least average, as Karp found: by sums of whole weeks, since each round comes by weekday 0.

    Of the states that are reached in as many weeks as there are states of weekday 0, one has the
    least average as the greatest one of its last weeks, and none has less.
    """
    sums = _sums_by_weeks(task, costs)
    least = None
    for state in sums[-1]:
        most = _most_mean(sums, state)
        if least is None or _is_less(most, least):
            least = most
    return lowest(least[0], least[1] * len(task.wants))


def _sums_by_weeks(task, costs):
    """For each number of weeks the least dislikes of rotas of these weeks to each state behind them."""
    sums = [{begin_of(task): 0}]
    for _ in [state for state in costs if state[0] == 0]:
        now = sums[-1]
        for _ in task.wants:
            now = _a_day_on(costs, now)
        sums.append(now)
    return sums


def _a_day_on(costs, sums):
    found = {}
    for state in sums:
        for cost, later in costs[state]:
            most = sums[state] + cost
            if found.get(later, most) >= most:
                found[later] = most
    return found


def _most_mean(sums, state):
    """The greatest average, for a week, of the weeks behind one of the rotas to the state, up to the last."""
    most = None
    weeks = len(sums) - 1
    for k in range(weeks):
        if state in sums[k]:
            mean = (sums[weeks][state] - sums[k][state], weeks - k)
            if most is None or _is_less(most, mean):
                most = mean
    return most


def _is_less(one, other):
    return one[0] * other[1] < other[0] * one[1]


def _costs_less_mean(costs, mean):
    """Each cost b times, less a, for the average (a, b): a round that has this average costs nothing then."""
    a, b = mean
    return {state: [(b * cost - a, later) for cost, later in costs[state]] for state in costs}


def _prices_of(costs):
    """For each state the least that the steps of any way from it cost, 0 at most; no way round costs less than 0."""
    prices = {state: 0 for state in costs}
    # The last weekdays come first, so that each time through tells what a whole week more costs.
    states = sorted(list(costs), reverse=True)
    falling = True
    while falling:
        falling = False
        for state in states:
            price = min([cost + prices[later] for cost, later in costs[state]], default=0)
            if price < prices[state]:
                prices[state] = price
                falling = True
    return prices


def mean_holds(task, dislikes, mean, value):
    """Whether value is a round with this average, and prices that show that no round has less."""
    if not is_dislikes(task, dislikes) or not is_ratio(mean) or not is_tuple(value, 3, 3):
        return False
    ahead, again, prices = value
    if not round_holds(task, (ahead, again)) or not are_marks(task, prices):
        return False
    total = sum_behind(task, dislikes, len(ahead), again)
    if mean[1] * total != mean[0] * len(again):
        return False
    return _prices_hold(_costs_less_mean(_costs_of(graph_of(task), dislikes), mean), prices)


def sum_behind(task, dislikes, days, deals):
    """The dislikes of deals behind so many days."""
    weekdays = len(task.wants)
    return sum([dislikes_of(dislikes, (days + k) % weekdays, deals[k]) for k in range(len(deals))])


def _prices_hold(costs, value):
    """Whether the pairs have a price for each state, and no others, and no step comes to less than its state."""
    if [state for state, _ in value] != sorted(list(costs)):
        return False
    prices = {state: price for state, price in value}
    return all([cost + prices[later] >= prices[state] for state in costs for cost, later in costs[state]])
