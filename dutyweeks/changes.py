"""What is fixed in rotas of so many days: what it forces, how a rota is mended, and what shows that there is none."""

from dutyweeks.checks import is_between, is_tuple, rises
from dutyweeks.errors import InvalidFixed, InvalidNumber, InvalidRota, Undefined
from dutyweeks.layers import NO_WAY, cheapest_rota, costs_left, held_on, layers_of, no_cost, steps_with
from dutyweeks.states import begin_of, is_state, week_of
from dutyweeks.tasks import is_deal

MOST_FIXED_DAYS = 10


def is_fixed(task, n, value):
    """Whether n is a number of days that is let, and value is fixed for so many."""
    if not is_between(n, 0, MOST_FIXED_DAYS) or not isinstance(value, tuple):
        return False
    if not all([_is_letter_fixed(task, n, part) for part in value]):
        return False
    return rises([(day, person) for day, person, _ in value])


def _is_letter_fixed(task, n, value):
    """Whether value is a triple of a day below n, a person and a letter."""
    if not is_tuple(value, 3, 3):
        return False
    day, person, letter = value
    if not is_between(day, 0, n - 1) or not is_between(person, 0, len(task.machines) - 1):
        return False
    return is_between(letter, 0, task.machines[0].letters - 1)


def forced(task, n, fixed):
    """All triples (day, person, letter) that each rota of n days has that has what is fixed, ascending."""
    _check(task, n, fixed)
    layers = layers_of(task, n, fixed)
    left = costs_left(layers, no_cost)
    if left[0][begin_of(task)] >= NO_WAY:
        raise Undefined("rota")
    found = []
    for day in range(n):
        deals = _deals_that_last(layers[day], left[day + 1])
        found.extend([(day, person, deals[0][person]) for person in _people_alike(deals)])
    return tuple(found)


def _deals_that_last(layer, left):
    """All deals of the layer that lead to a state from which a way leads up to the last day."""
    return [deal for state in layer for deal, later in layer[state] if left[later] < NO_WAY]


def _people_alike(deals):
    """The people who have the same letter in all of the deals."""
    first = deals[0]
    return [person for person in range(len(first)) if all([deal[person] == first[person] for deal in deals])]


def nearest(task, n, fixed, old):
    """Of the rotas of n days that have what is fixed and differ from old in the fewest places the first one."""
    _check(task, n, fixed)
    if not is_tuple(old, n, n) or not all([is_deal(task, deal) for deal in old]):
        raise InvalidRota(old)
    rota = cheapest_rota(task, layers_of(task, n, fixed), lambda day, deal: _places_unlike(deal, old[day]))
    if rota is None:
        raise Undefined("rota")
    return rota


def _places_unlike(one, other):
    """In how many places two deals differ."""
    return len([k for k in range(len(one)) if one[k] != other[k]])


def _check(task, n, fixed):
    if not is_between(n, 0, MOST_FIXED_DAYS):
        raise InvalidNumber(n)
    if not is_fixed(task, n, fixed):
        raise InvalidFixed(fixed)


def walls(task, n, fixed):
    """Walls that show that no rota of n days has what is fixed: the states behind the days up to each one."""
    _check(task, n, fixed)
    layers = layers_of(task, n, fixed)
    if layers[n]:
        raise Undefined("rota")
    return tuple([tuple(layer) for layer in layers])


def walls_hold(task, n, fixed, value):
    """Whether value is walls for n days and what is fixed."""
    if not is_fixed(task, n, fixed) or not is_tuple(value, n + 1, n + 1):
        return False
    if not all([_are_states(task, states) for states in value]):
        return False
    if begin_of(task) not in value[0] or value[n] != ():
        return False
    week = week_of(task)
    for day in range(n):
        held = held_on(fixed, day)
        steps = [step for state in value[day] for step in steps_with(task, week, state, held)]
        if not _all_lead_into(steps, value[day + 1]):
            return False
    return True


def _are_states(task, value):
    """Whether value is an ascending tuple of states of the task, reached or not."""
    return isinstance(value, tuple) and all([is_state(task, state) for state in value]) and rises(value)


def _all_lead_into(steps, states):
    """Whether each of the steps leads to one of the states."""
    there = {state: True for state in states}
    return all([later in there for _, later in steps])
