"""Parts of cases, and cores: the few of them that make all rotas end by themselves."""

from dutyweeks.checks import is_between, is_tuple, rises
from dutyweeks.errors import InvalidPart, TooLarge, Undefined
from dutyweeks.rounds import heights, heights_hold, longest, round_holds, round_of
from dutyweeks.tasks import Case

RULE = "rule"
WANT = "want"


def parts(case):
    """All parts of the case, ascending."""
    return tuple(_parts_of(case.rules, RULE) + _parts_of(case.wants, WANT))


def _parts_of(rows, word):
    return [(word, k, at) for k in range(len(rows)) for at in range(len(rows[k]))]


def with_parts(case, some):
    """The case of just these rules and wants, in their order, with as many people and weekdays."""
    if not _are_parts(case, some):
        raise InvalidPart(some)
    return Case(case.letters, _just(case.rules, RULE, some), _just(case.wants, WANT, some))


def _just(rows, word, some):
    """The rows with just those members that are among some parts."""
    return tuple([
        tuple([rows[k][at] for at in range(len(rows[k])) if (word, k, at) in some]) for k in range(len(rows))
    ])


def _are_parts(case, value):
    """Whether value is an ascending tuple of parts of the case."""
    return isinstance(value, tuple) and all([_is_part(case, part) for part in value]) and rises(value)


def _is_part(case, value):
    if not is_tuple(value, 3, 3) or value[0] not in (RULE, WANT):
        return False
    rows = case.rules if value[0] == RULE else case.wants
    return is_between(value[1], 0, len(rows) - 1) and is_between(value[2], 0, len(rows[value[1]]) - 1)


def core(case):
    """The parts that are left if each one in turn is left out without which all rotas still end."""
    left, _ = _core_and_others(case)
    return left


def core_paper(case):
    """Heights for the core, and for each part of it a round for the others."""
    left, others = _core_and_others(case)
    return heights(with_parts(case, left).task), tuple([round_of(other.task) for other in others])


def _core_and_others(case):
    """The core, and for each part of it the case of just the others.

    These cases are made for core too, since it raises TooLarge where one of them is too large.
    """
    if longest(case.task) is None:
        raise Undefined("endless")
    left = parts(case)
    for part in parts(case):
        fewer = _without(left, part)
        if longest(with_parts(case, fewer).task) is not None:
            left = fewer
    return left, [with_parts(case, _without(left, part)) for part in left]


def _without(some, part):
    return tuple([other for other in some if other != part])


def core_holds(case, some, paper):
    """Whether some is an ascending tuple of parts of the case, and paper heights and rounds for it."""
    if not _are_parts(case, some) or not is_tuple(paper, 2, 2) or not is_tuple(paper[1], len(some), len(some)):
        return False
    task = _task_with(case, some)
    if task is None or not heights_hold(task, paper[0]):
        return False
    return all([_round_without(case, some, part, value) for part, value in zip(some, paper[1])])


def _round_without(case, some, part, value):
    """Whether value is a round for the case of some parts less this one; False if that is too large."""
    task = _task_with(case, _without(some, part))
    return task is not None and round_holds(task, value)


def _task_with(case, some):
    """The task of the case of just these parts, None if it is too large."""
    try:
        return with_parts(case, some).task
    except TooLarge:
        return None
