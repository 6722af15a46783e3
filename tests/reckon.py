"""What the document says of tasks, reckoned in the plainest way, to hold the program against it."""

import itertools
import math
import random
from fractions import Fraction

from dutyweeks.errors import TooLarge
from dutyweeks.machines import Machine
from dutyweeks.tasks import Case, Task


def deals_of(task):
    return list(itertools.product(range(task.machines[0].letters), repeat=len(task.machines)))


def meets_all(task, day, deal):
    for letter, people, low, high in task.wants[day % len(task.wants)]:
        if not low <= sum(deal[person] == letter for person in people) <= high:
            return False
    return True


def start(task):
    return (0, tuple(0 for _ in task.machines))


def all_states(task):
    """All states of the task, reached or not, ascending."""
    ranges = [range(len(machine.table)) for machine in task.machines]
    return list(itertools.product(range(len(task.wants)), itertools.product(*ranges)))


def steps(task, state):
    """The pairs (deal, state) of all deals that can be dealt at the state, ascending."""
    found = []
    for deal in deals_of(task):
        later = tuple(machine.table[at][letter] for machine, at, letter in zip(task.machines, state[1], deal))
        if meets_all(task, state[0], deal) and min(later) >= 0:
            found.append((deal, ((state[0] + 1) % len(task.wants), later)))
    return found


def is_deal(task, value):
    if type(value) is not tuple or len(value) != len(task.machines):
        return False
    return all(type(letter) is int and letter in range(task.machines[0].letters) for letter in value)


def rota(task, value):
    """Whether value is a rota: by the wants of each day, and by each person's whole row."""
    if type(value) is not tuple or not all(is_deal(task, deal) for deal in value):
        return False
    if not all(meets_all(task, day, deal) for day, deal in enumerate(value)):
        return False
    return all(machine.after(row) >= 0 for machine, row in zip(task.machines, rows(task, value)))


def rows(task, value):
    return [tuple(deal[person] for deal in value) for person in range(len(task.machines))]


def state_behind(task, value):
    states = tuple(machine.after(row) for machine, row in zip(task.machines, rows(task, value)))
    return (len(value) % len(task.wants), states)


def rotas(task, days):
    """All rotas of so many days, ascending."""
    found = [()]
    for _ in range(days):
        found = [value + (deal,) for value in found for deal in deals_of(task) if rota(task, value + (deal,))]
    return found


def reached(task):
    found = {start(task)}
    while True:
        more = found | {later for state in found for _, later in steps(task, state)}
        if more == found:
            return sorted(found)
        found = more


def longest(task):
    """The greatest number of days of rotas, None if there is none: day by day, the states behind that many."""
    now, days = {start(task)}, 0
    while days <= len(all_states(task)):
        now = {later for state in now for _, later in steps(task, state)}
        if not now:
            return days
        days += 1
    return None


def round_(task, value):
    if type(value) is not tuple or len(value) != 2 or not all(type(part) is tuple for part in value):
        return False
    ahead, again = value
    if again == () or not rota(task, ahead + again):
        return False
    return state_behind(task, ahead) == state_behind(task, ahead + again)


def marks(task, value):
    """The dict of an ascending tuple of pairs (state, integer), None if value is none."""
    if type(value) is not tuple:
        return None
    for pair in value:
        if type(pair) is not tuple or len(pair) != 2 or type(pair[1]) is not int:
            return None
        if not is_plain_numbers(pair[0]) or pair[0] not in all_states(task):
            return None
    found = dict(value)
    return found if sorted(found) == [pair[0] for pair in value] else None


def is_plain_numbers(value):
    return type(value) is int or type(value) is tuple and all(is_plain_numbers(x) for x in value)


def heights(task, value):
    found = marks(task, value)
    if found is None or start(task) not in found or min(found.values()) < 0:
        return False
    return all(later in found and found[later] < found[state] for state in found for _, later in steps(task, state))


def dislikes_of(dislikes, day, deal):
    return sum(dislikes[person][day % len(dislikes[person])][deal[person]] for person in range(len(deal)))


def average(dislikes, value):
    ahead, again = value
    total = sum(dislikes_of(dislikes, len(ahead) + k, deal) for k, deal in enumerate(again))
    return Fraction(total, len(again))


def least_mean(task, dislikes):
    """The least average of all ways of at most as many days as there are states, from a reached state back to it."""
    states = reached(task)
    least = None
    for state in states:
        sums = {state: 0}
        for days in range(1, len(states) + 1):
            longer = {}
            for now in sums:
                for deal, later in steps(task, now):
                    total = sums[now] + dislikes_of(dislikes, now[0], deal)
                    longer[later] = min(total, longer.get(later, total))
            sums = longer
            if state in sums and (least is None or Fraction(sums[state], days) < least):
                least = Fraction(sums[state], days)
    return least


def mean(task, dislikes, mean, value):
    if type(mean) is not tuple or len(mean) != 2 or not all(type(x) is int for x in mean):
        return False
    if mean[1] < 1 or math.gcd(*mean) != 1 or type(value) is not tuple or len(value) != 3:
        return False
    if not round_(task, value[:2]) or average(dislikes, value[:2]) != Fraction(*mean):
        return False
    prices = marks(task, value[2])
    if prices is None or sorted(prices) != reached(task):
        return False
    return all(mean[1] * dislikes_of(dislikes, state[0], deal) - mean[0] + prices[later] >= prices[state]
               for state in prices for deal, later in steps(task, state))


def random_machine(source, letters, states, barred):
    """A machine of so many states that bars about so many of a hundred letters."""
    return Machine(letters, tuple(
        tuple(-1 if source.randrange(100) < barred else source.randrange(states) for _ in range(letters))
        for _ in range(states)))


def random_wants(source, people, letters):
    def want():
        group = tuple(sorted(source.sample(range(people), source.randint(1, people))))
        low = source.choice((0, 0, 0, 1, 1, source.randint(0, people)))
        return (source.randrange(letters), group, low, source.choice((low, people)))
    return tuple(tuple(want() for _ in range(source.choice((0, 0, 1, 2)))) for _ in range(source.randint(1, 3)))


def random_tasks(seed, many):
    """Small tasks of all kinds, the same ones for the same seed."""
    source = random.Random(seed)
    tasks = []
    for _ in range(many):
        letters, people = source.randint(1, 3), source.randint(1, 3)
        most = {1: 6, 2: 3, 3: 2}[people]
        barred = source.choice((10, 25, 40, 50))
        machines = tuple(random_machine(source, letters, source.randint(1, most), barred) for _ in range(people))
        tasks.append(Task(machines, random_wants(source, people, letters)))
    return tasks


def random_dislikes(source, task, most=99):
    letters = task.machines[0].letters
    return tuple(tuple(tuple(source.randint(0, most) for _ in range(letters)) for _ in task.wants) for _ in task.machines)


def random_rule(source, letters):
    kind = source.choice(("never", "most", "least", "every"))
    if kind == "never":
        return (kind, tuple(source.randrange(letters) for _ in range(source.randint(1, 3))))
    low, high = {"most": (1, 3), "least": (2, 3), "every": (1, 4)}[kind]
    return (kind, source.randrange(letters), source.randint(low, high))


def random_cases(seed, many):
    """Cases of all kinds that are not too large, the same ones for the same seed."""
    source = random.Random(seed)
    cases = []
    while len(cases) < many:
        letters, people = source.randint(2, 3), source.choice((1, 1, 2, 3))
        rules = tuple(tuple(random_rule(source, letters) for _ in range(source.randint(0, 3))) for _ in range(people))
        try:
            cases.append(Case(letters, rules, random_wants(source, people, letters)))
        except TooLarge:
            pass
    return cases


def case_of(case, some):
    """The case of just some parts."""
    rules = tuple(tuple(rule for k, rule in enumerate(own) if ("rule", person, k) in some)
                  for person, own in enumerate(case.rules))
    wants = tuple(tuple(want for k, want in enumerate(own) if ("want", weekday, k) in some)
                  for weekday, own in enumerate(case.wants))
    return Case(case.letters, rules, wants)


def less(some, part):
    return tuple(other for other in some if other != part)


def core(case, parts):
    """The core of a case of these parts; TooLarge is raised where it is to be."""
    left = parts
    for part in parts:
        if longest(case_of(case, less(left, part)).task) is not None:
            left = less(left, part)
    for part in left:
        case_of(case, less(left, part))
    return left


def core_paper(case, some, paper):
    """Whether paper is a paper for some parts of the case."""
    if type(paper) is not tuple or len(paper) != 2 or type(paper[1]) is not tuple or len(paper[1]) != len(some):
        return False
    try:
        return heights(case_of(case, some).task, paper[0]) and all(
            round_(case_of(case, less(some, part)).task, value) for part, value in zip(some, paper[1]))
    except TooLarge:
        return False


def beginnings(value):
    return [value[:k] for k in range(len(value) + 1)]


def lead_behind(loads, p, q, value):
    """The difference of the sums of p's and q's loads in all of the deals."""
    return abs(sum(loads[deal[p]] for deal in value) - sum(loads[deal[q]] for deal in value))


def least_lead(task, loads, p, q, most=6):
    """The least lead: the pairs of a state and a difference are looked at that always lead on to others of them."""
    for lead in range(most + 1):
        ways = {}
        for state in reached(task):
            for ahead in range(-lead, lead + 1):
                onward = {(later, ahead + loads[deal[p]] - loads[deal[q]]) for deal, later in steps(task, state)}
                ways[state, ahead] = {node for node in onward if abs(node[1]) <= lead}
        while True:
            ended = {node for node in ways if not ways[node]}
            if not ended:
                break
            ways = {node: ways[node] - ended for node in ways if node not in ended}
        if (start(task), 0) in ways:
            return lead
    return None


def lead(task, loads, p, q, lead, value):
    """Whether value is a round that keeps the lead; loads, p, q and lead are taken to be such."""
    if not round_(task, value):
        return False
    ahead, again = value
    if sum(loads[deal[p]] for deal in again) != sum(loads[deal[q]] for deal in again):
        return False
    return all(lead_behind(loads, p, q, days) <= lead for days in beginnings(ahead + again))


def total(dislikes, value):
    return sum(dislikes_of(dislikes, day, deal) for day, deal in enumerate(value))


def best(task, dislikes, n):
    """The first of all rotas of n days with the least dislikes, None if there is none."""
    found = rotas(task, n)
    least = min([total(dislikes, value) for value in found], default=None)
    return next((value for value in found if total(dislikes, value) == least), None)


def prices(task, dislikes, n, rota_, value):
    """Whether value is prices for n days with the dislikes of this rota; dislikes and n are taken to be such."""
    if not rota(task, rota_) or len(rota_) != n or type(value) is not tuple or len(value) != n + 1:
        return False
    found = [marks(task, pairs) for pairs in value]
    for k in range(n + 1):
        there = {state_behind(task, ahead) for ahead in rotas(task, k)}
        if found[k] is None or set(found[k]) != there:
            return False
    if found[0][start(task)] != total(dislikes, rota_) or any(price > 0 for price in found[n].values()):
        return False
    return all(found[k][state] <= dislikes_of(dislikes, k, deal) + found[k + 1][later]
               for k in range(n) for state in found[k] for deal, later in steps(task, state))


def has(value, fixed):
    return all(value[day][person] == letter for day, person, letter in fixed)


def rotas_with(task, n, fixed):
    return [value for value in rotas(task, n) if has(value, fixed)]


def places(task, n):
    return list(itertools.product(range(n), range(len(task.machines))))


def forced(task, n, fixed):
    found = rotas_with(task, n, fixed)
    told = [(day, person, {value[day][person] for value in found}) for day, person in places(task, n)]
    return tuple((day, person, min(letters)) for day, person, letters in told if len(letters) == 1)


def unlike(one, other):
    return sum(a != b for here, there in zip(one, other) for a, b in zip(here, there))


def nearest(task, n, fixed, old):
    return min(rotas_with(task, n, fixed), key=lambda value: (unlike(value, old), value), default=None)


def walls(task, n, fixed, value):
    """Whether value is walls; n and fixed are taken to be such."""
    if type(value) is not tuple or len(value) != n + 1 or not all(type(states) is tuple for states in value):
        return False
    there = all_states(task)
    if not all(is_plain_numbers(states) and set(states) <= set(there) for states in value):
        return False
    if not all(list(states) == sorted(set(states)) for states in value):
        return False
    if start(task) not in value[0] or value[n]:
        return False
    for k in range(n):
        held = [(person, letter) for day, person, letter in fixed if day == k]
        for state in value[k]:
            for deal, later in steps(task, state):
                if all(deal[person] == letter for person, letter in held) and later not in value[k + 1]:
                    return False
    return True


def random_fixed(source, task, n, most=3):
    """Some triples of a day, a person and a letter, ascending."""
    there = places(task, n)
    chosen = sorted(source.sample(there, min(len(there), source.randint(0, most))))
    return tuple((day, person, source.randrange(task.machines[0].letters)) for day, person in chosen)


def random_deals(source, task, n):
    return tuple(source.choice(deals_of(task)) for _ in range(n))
