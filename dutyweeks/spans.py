"""Rotas of so many days: how many there are, the ones with the least dislikes, and the prices that show it."""

from dutyweeks.checks import is_between, is_tuple
from dutyweeks.errors import InvalidDislikes, InvalidNumber, Undefined
from dutyweeks.layers import NO_WAY, cheapest_rota, costs_left, layers_of
from dutyweeks.means import dislikes_of, is_dislikes, sum_behind
from dutyweeks.rotas import is_rota
from dutyweeks.states import are_marks, begin_of

MOST_DAYS = 14


def count(task, n):
    """The number of rotas of n days."""
    _check_days(n)
    many = {begin_of(task): 1}
    for layer in layers_of(task, n, ())[:n]:
        many = _a_day_on(layer, many)
    return sum(many.values())


def _check_days(n):
    if not is_between(n, 0, MOST_DAYS):
        raise InvalidNumber(n)


def _a_day_on(layer, many):
    """How many rotas lead to each state of the next day, from how many lead to each one of this layer."""
    found = {}
    for state in layer:
        for _, later in layer[state]:
            found[later] = found.get(later, 0) + many[state]
    return found


def best(task, dislikes, n):
    """Of the rotas of n days with the least dislikes the first in dictionary order."""
    layers = _layers_checked(task, dislikes, n)
    rota = cheapest_rota(task, layers, _cost_by(task, dislikes))
    if rota is None:
        raise Undefined("rota")
    return rota


def best_paper(task, dislikes, n):
    """Prices that show that no rota of n days has less dislikes than the best one."""
    left = costs_left(_layers_checked(task, dislikes, n), _cost_by(task, dislikes))
    if left[0][begin_of(task)] >= NO_WAY:
        raise Undefined("rota")
    return tuple([tuple(prices.items()) for prices in left])


def _layers_checked(task, dislikes, n):
    """The layers of the rotas of n days; the errors of best and best_paper are raised here."""
    if not is_dislikes(task, dislikes):
        raise InvalidDislikes(dislikes)
    _check_days(n)
    return layers_of(task, n, ())


def _cost_by(task, dislikes):
    """What a deal costs on a day: its dislikes."""
    return lambda day, deal: dislikes_of(dislikes, day % len(task.wants), deal)


def best_holds(task, dislikes, n, rota, value):
    """Whether rota is one of n days, and value prices that show that none has less dislikes."""
    if not is_dislikes(task, dislikes) or not is_between(n, 0, MOST_DAYS):
        return False
    if not is_rota(task, rota) or len(rota) != n or not is_tuple(value, n + 1, n + 1):
        return False
    layers = layers_of(task, n, ())
    if not all([_are_prices(task, layer, pairs) for layer, pairs in zip(layers, value)]):
        return False
    prices = [{state: price for state, price in pairs} for pairs in value]
    if prices[0][begin_of(task)] != sum_behind(task, dislikes, 0, rota) or max(prices[n].values()) > 0:
        return False
    return _none_costs_less(layers, prices, _cost_by(task, dislikes))


def _are_prices(task, layer, value):
    """Whether value is an ascending tuple of pairs of a state and a price, one for each state of the layer."""
    return are_marks(task, value) and [state for state, _ in value] == list(layer)


def _none_costs_less(layers, prices, cost):
    """Whether no deal with what comes behind it costs less than the price of its state."""
    return all([
        prices[day][state] <= cost(day, deal) + prices[day + 1][later]
        for day in range(len(layers) - 1) for state in layers[day] for deal, later in layers[day][state]
    ])
