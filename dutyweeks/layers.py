"""Rotas of so many days as layers: for each number of days a dict of the states behind that many.

The states of a layer come in ascending order. Each one has its steps there, pairs of a deal and the state that it
leads to; on the last day it has none.
What is fixed is a tuple of triples (day, person, letter).
"""

from dutyweeks.states import begin_of, steps_at, week_of

# More than what is added up over the days of any rota that is looked at here.
NO_WAY = 10000


def layers_of(task, n, fixed):
    """The layers of the rotas of n days, of the deals that have what is fixed alone."""
    week = week_of(task)
    layers = []
    states = [begin_of(task)]
    for day in range(n):
        held = held_on(fixed, day)
        layers.append({state: steps_with(task, week, state, held) for state in states})
        states = sorted(set([later for state in states for _, later in layers[day][state]]))
    layers.append({state: [] for state in states})
    return layers


def held_on(fixed, day):
    """The pairs (person, letter) that are fixed on the day."""
    return [(person, letter) for on, person, letter in fixed if on == day]


def steps_with(task, week, state, held):
    """The steps at the state, ascending, whose deals have each letter that is held."""
    return [step for step in steps_at(task, week, state) if has(step[0], held)]


def has(deal, held):
    """Whether each of the people has the letter in the deal that is held."""
    return all([deal[person] == letter for person, letter in held])


def has_fixed(rota, fixed):
    """Whether the rota has what is fixed."""
    return all([rota[day][person] == letter for day, person, letter in fixed])


def costs_left(layers, cost):
    """For each day and state the least that the deals from there on up to the last day cost.

    cost(day, deal) is what a deal costs. Where no way leads up to the last day it is NO_WAY or more.
    """
    last = len(layers) - 1
    left = [{state: 0 for state in layers[last]}]
    for day in range(last - 1, -1, -1):
        onward = left[-1]
        left.append({
            state: min([cost(day, deal) + onward[later] for deal, later in layers[day][state]], default=NO_WAY)
            for state in layers[day]
        })
    return left[::-1]


def cheapest_rota(task, layers, cost):
    """Of the rotas that cost the least the first in dictionary order, None if there is none of so many days."""
    left = costs_left(layers, cost)
    state = begin_of(task)
    if left[0][state] >= NO_WAY:
        return None
    rota = []
    for day in range(len(layers) - 1):
        least = left[day][state]
        good = [step for step in layers[day][state] if cost(day, step[0]) + left[day + 1][step[1]] == least]
        deal, state = good[0]
        rota.append(deal)
    return tuple(rota)


def first_rota(task, n, fixed):
    """The first rota of n days that has what is fixed, in dictionary order; None if there is none."""
    return cheapest_rota(task, layers_of(task, n, fixed), no_cost)


def no_cost(day, deal):
    """The cost of each deal where rotas are only to be found."""
    return 0
