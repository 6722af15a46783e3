"""Papers for claims, from which their truth can be seen."""

from dutyweeks.changes import walls, walls_hold
from dutyweeks.checks import is_tuple
from dutyweeks.claims import answer_of, is_claim
from dutyweeks.graphs import days_left, longest_way
from dutyweeks.layers import first_rota, has_fixed
from dutyweeks.means import mean_holds, mean_paper, sum_behind
from dutyweeks.rotas import is_rota
from dutyweeks.rounds import heights, heights_hold, round_holds, round_of
from dutyweeks.spans import best, best_holds, best_paper
from dutyweeks.states import begin_of, graph_of


def paper_of(case, question):
    """Some paper for the claim that answers the question."""
    return paper_for(case, answer_of(case, question))


def paper_for(case, claim):
    """Some paper for a claim that is true."""
    task = case.task
    word, *told = claim
    if word == "endless":
        return round_of(task)
    if word == "ends":
        return _longest_rota(task), heights(task)
    if word == "mean":
        return mean_paper(task, told[0])
    if word == "no mean":
        return heights(task)
    if word == "cost":
        return best(task, told[0], told[1]), best_paper(task, told[0], told[1])
    if word == "no cost":
        return walls(task, told[1], ())
    if word == "forced":
        return _forced_paper(task, *told)
    if word == "open":
        return _open_paper(task, *told)
    return walls(task, told[0], told[1])


def _longest_rota(task):
    """Some rota of the greatest number of days."""
    graph = graph_of(task)
    return longest_way(graph, days_left(graph), begin_of(task))


def _forced_paper(task, n, fixed, day, person, letter):
    """A rota that has what is fixed, and walls for each other letter."""
    others = _other_letters(task, fixed, (day, person), letter)
    rows = [walls(task, n, _with_letter(fixed, (day, person), other)) for other in others]
    return first_rota(task, n, fixed), tuple(rows)


def _open_paper(task, n, fixed, day, person):
    """Two rotas that have what is fixed, the first ones with each of two letters."""
    rotas = []
    for letter in range(task.machines[0].letters):
        rotas.append(first_rota(task, n, _with_letter(fixed, (day, person), letter)))
    there = [rota for rota in rotas if rota is not None]
    return there[0], there[1]


def _with_letter(fixed, place, letter):
    """What is fixed, and the letter at the place, which is a day and a person of which nothing is fixed yet."""
    return tuple(sorted(fixed + (place + (letter,),)))


def _other_letters(task, fixed, place, letter):
    """The other letters that are to be ruled out at the place: none if it is fixed already."""
    if place in [part[:2] for part in fixed]:
        return []
    return [other for other in range(task.machines[0].letters) if other != letter]


def claim_holds(case, claim, paper):
    """Whether claim is a claim for the case, and paper a paper for it."""
    if not is_claim(case, claim):
        return False
    task = case.task
    word, *told = claim
    if word == "endless":
        return round_holds(task, paper)
    if word == "ends":
        return _ends_holds(task, told[0], paper)
    if word == "mean":
        return mean_holds(task, told[0], told[1], paper)
    if word == "no mean":
        return heights_hold(task, paper)
    if word == "cost":
        return _cost_holds(task, *told, paper)
    if word == "no cost":
        return walls_hold(task, told[1], (), paper)
    if word == "forced":
        return _forced_holds(task, *told, paper)
    if word == "open":
        return _open_holds(task, *told, paper)
    return walls_hold(task, told[0], told[1], paper)


def _ends_holds(task, many, paper):
    """Whether paper is a rota of so many days, and heights that let no more."""
    if not is_tuple(paper, 2, 2) or not is_rota(task, paper[0]) or len(paper[0]) != many:
        return False
    return heights_hold(task, paper[1]) and (begin_of(task), many) in paper[1]


def _cost_holds(task, dislikes, n, many, paper):
    """Whether paper is a rota of n days with so many dislikes, and prices that let no less."""
    if not is_tuple(paper, 2, 2) or not best_holds(task, dislikes, n, paper[0], paper[1]):
        return False
    return sum_behind(task, dislikes, 0, paper[0]) == many


def _forced_holds(task, n, fixed, day, person, letter, paper):
    """Whether paper is a rota with what is fixed and the letter, and walls for each other letter."""
    if not is_tuple(paper, 2, 2) or not _is_rota_with(task, n, fixed, paper[0]) or paper[0][day][person] != letter:
        return False
    others = _other_letters(task, fixed, (day, person), letter)
    if not is_tuple(paper[1], len(others), len(others)):
        return False
    wider = [_with_letter(fixed, (day, person), other) for other in others]
    return all([walls_hold(task, n, more, rows) for more, rows in zip(wider, paper[1])])


def _open_holds(task, n, fixed, day, person, paper):
    """Whether paper is two rotas with what is fixed and with unlike letters."""
    if not is_tuple(paper, 2, 2) or not all([_is_rota_with(task, n, fixed, rota) for rota in paper]):
        return False
    return paper[0][day][person] != paper[1][day][person]


def _is_rota_with(task, n, fixed, value):
    """Whether value is a rota of n days that has what is fixed."""
    return is_rota(task, value) and len(value) == n and has_fixed(value, fixed)
