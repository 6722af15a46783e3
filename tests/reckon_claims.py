"""What the document says of questions, claims and papers, reckoned in the plainest way."""

import math
from fractions import Fraction

from tests import reckon


def letters_of(task):
    return task.machines[0].letters


def is_number(value, below=None):
    return type(value) is int and value >= 0 and (below is None or value < below)


def is_rows(value, *sizes):
    """Whether value is a tuple of so many tuples of so many .. of numbers below 100."""
    if not sizes:
        return is_number(value, 100)
    return type(value) is tuple and len(value) == sizes[0] and all(is_rows(part, *sizes[1:]) for part in value)


def is_dislikes(task, value):
    return is_rows(value, len(task.machines), len(task.wants), letters_of(task))


def is_fixed(task, n, value):
    if not is_number(n, 11) or type(value) is not tuple:
        return False
    for part in value:
        if type(part) is not tuple or len(part) != 3 or not is_number(part[0], n):
            return False
        if not is_number(part[1], len(task.machines)) or not is_number(part[2], letters_of(task)):
            return False
    there = [part[:2] for part in value]
    return there == sorted(set(there))


def is_ratio(value):
    if type(value) is not tuple or len(value) != 2 or not all(type(x) is int for x in value):
        return False
    return value[1] > 0 and math.gcd(*value) == 1


def is_cell(task, n, fixed, day, person):
    return is_fixed(task, n, fixed) and is_number(day, n) and is_number(person, len(task.machines))


def is_question(case, value):
    task = case.task
    if type(value) is not tuple:
        return False
    match value:
        case ("endless",):
            return True
        case ("mean", dislikes):
            return is_dislikes(task, dislikes)
        case ("cost", dislikes, n):
            return is_dislikes(task, dislikes) and is_number(n, 11)
        case ("cell", n, fixed, day, person):
            return is_cell(task, n, fixed, day, person)
    return False


def is_claim(case, value):
    task = case.task
    if type(value) is not tuple:
        return False
    match value:
        case ("endless",):
            return True
        case ("ends", many):
            return is_number(many)
        case ("mean", dislikes, mean):
            return is_dislikes(task, dislikes) and is_ratio(mean)
        case ("no mean", dislikes):
            return is_dislikes(task, dislikes)
        case ("cost", dislikes, n, many):
            return is_dislikes(task, dislikes) and is_number(n, 11) and is_number(many)
        case ("no cost", dislikes, n):
            return is_dislikes(task, dislikes) and is_number(n, 11)
        case ("forced", n, fixed, day, person, letter):
            return is_cell(task, n, fixed, day, person) and is_number(letter, letters_of(task))
        case ("open" | "none", n, fixed, day, person):
            return is_cell(task, n, fixed, day, person)
    return False


def answer(case, question):
    task = case.task
    match question:
        case ("endless",):
            many = reckon.longest(task)
            return ("endless",) if many is None else ("ends", many)
        case ("mean", dislikes):
            if reckon.longest(task) is not None:
                return ("no mean", dislikes)
            mean = reckon.least_mean(task, dislikes)
            return ("mean", dislikes, (mean.numerator, mean.denominator))
        case ("cost", dislikes, n):
            rota = reckon.best(task, dislikes, n)
            return ("no cost", dislikes, n) if rota is None else ("cost", dislikes, n, reckon.total(dislikes, rota))
        case ("cell", n, fixed, day, person):
            letters = {value[day][person] for value in reckon.rotas_with(task, n, fixed)}
            if len(letters) == 1:
                return ("forced", n, fixed, day, person, letters.pop())
            return ("open" if letters else "none", n, fixed, day, person)


def others(case, question, claim):
    """Other claims that may answer the question, near to the true one and far from it."""
    task = case.task
    match question:
        case ("endless",):
            found = [("endless",)] + [("ends", many) for many in (0, 1, 2, 3, 7, 10 ** 11)]
            found += [("ends", claim[1] + more) for more in (-1, 1) if claim[0] == "ends" and claim[1] + more >= 0]
        case ("mean", dislikes):
            means = [Fraction(0), Fraction(99), Fraction(1, 2)]
            if claim[0] == "mean":
                a, b = claim[2]
                means += [Fraction(a + 1, b), Fraction(a - 1, b), Fraction(-a, b)]
            found = [("no mean", dislikes)] + [("mean", dislikes, (mean.numerator, mean.denominator)) for mean in means]
        case ("cost", dislikes, n):
            costs = [0, 1, 99] + [claim[3] + more for more in (-1, 1) if claim[0] == "cost" and claim[3] + more >= 0]
            found = [("no cost", dislikes, n)] + [("cost", dislikes, n, many) for many in costs]
        case ("cell", *told):
            found = [("open", *told), ("none", *told)]
            found += [("forced", *told, letter) for letter in range(letters_of(task))]
    return [other for other in found if other != claim]


def has_paper(case, claim, paper):
    """Whether paper is a paper for the claim, which is taken to be one."""
    task = case.task
    match claim:
        case ("endless",):
            return reckon.round_(task, paper)
        case ("mean", dislikes, mean):
            return reckon.mean(task, dislikes, mean, paper)
        case ("no mean", _):
            return reckon.heights(task, paper)
        case ("no cost", _, n):
            return reckon.walls(task, n, (), paper)
        case ("none", n, fixed, _, _):
            return reckon.walls(task, n, fixed, paper)
    if type(paper) is not tuple or len(paper) != 2:
        return False
    match claim:
        case ("ends", many):
            if not reckon.rota(task, paper[0]) or len(paper[0]) != many:
                return False
            return reckon.heights(task, paper[1]) and dict(paper[1])[reckon.start(task)] == many
        case ("cost", dislikes, n, many):
            return reckon.prices(task, dislikes, n, *paper) and reckon.total(dislikes, paper[0]) == many
        case ("forced", n, fixed, day, person, letter):
            return is_forced_paper(task, n, fixed, (day, person), letter, paper)
        case ("open", n, fixed, day, person):
            if not all(is_rota_with(task, n, fixed, rota) for rota in paper):
                return False
            return paper[0][day][person] != paper[1][day][person]


def is_rota_with(task, n, fixed, value):
    return reckon.rota(task, value) and len(value) == n and reckon.has(value, fixed)


def is_forced_paper(task, n, fixed, place, letter, paper):
    rota, rows = paper
    if not is_rota_with(task, n, fixed, rota) or rota[place[0]][place[1]] != letter:
        return False
    if place in [part[:2] for part in fixed]:
        return type(rows) is tuple and rows == ()
    left = [other for other in range(letters_of(task)) if other != letter]
    if type(rows) is not tuple or len(rows) != len(left):
        return False
    return all(reckon.walls(task, n, tuple(sorted(fixed + (place + (other,),))), row) for other, row in zip(left, rows))


def random_question(source, case, most=3):
    """A question of any kind for the case, of at most so many days."""
    task = case.task
    kind = source.choice(("endless", "mean", "cost", "cost", "cell", "cell", "cell"))
    if kind == "endless":
        return (kind,)
    if kind == "cell":
        n = source.randint(1, most)
        fixed = reckon.random_fixed(source, task, n, source.choice((0, 1, 2, 4)))
        return (kind, n, fixed, source.randrange(n), source.randrange(len(task.machines)))
    dislikes = reckon.random_dislikes(source, task, source.choice((1, 5, 99)))
    return (kind, dislikes) if kind == "mean" else (kind, dislikes, source.randint(0, most))
