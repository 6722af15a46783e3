"""Questions that are asked of cases, and the claims that may answer them, of which just one is true."""

from dutyweeks.changes import forced, is_fixed
from dutyweeks.checks import is_between, is_integer, is_ratio, plain
from dutyweeks.errors import InvalidClaim, InvalidQuestion, Undefined
from dutyweeks.means import is_dislikes, least_mean, sum_behind
from dutyweeks.rounds import longest
from dutyweeks.spans import best

MOST_DAYS_ASKED = 10

# What stands behind the word of each question, and of each claim. A claim begins with all that its question tells.
QUESTIONS = {
    "endless": (),
    "mean": ("dislikes",),
    "cost": ("dislikes", "n"),
    "cell": ("n", "fixed", "day", "person"),
}
CLAIMS = {
    "endless": (),
    "ends": ("many",),
    "mean": ("dislikes", "mean"),
    "no mean": ("dislikes",),
    "cost": ("dislikes", "n", "many"),
    "no cost": ("dislikes", "n"),
    "forced": ("n", "fixed", "day", "person", "letter"),
    "open": ("n", "fixed", "day", "person"),
    "none": ("n", "fixed", "day", "person"),
}

# The word of the question that each claim may answer.
ASKED = {
    "endless": "endless",
    "ends": "endless",
    "mean": "mean",
    "no mean": "mean",
    "cost": "cost",
    "no cost": "cost",
    "forced": "cell",
    "open": "cell",
    "none": "cell",
}


def is_question(case, value):
    """Whether value is a question for the case."""
    return _has_word(value) and value[0] in QUESTIONS and _are_told(case.task, QUESTIONS[value[0]], value)


def is_claim(case, value):
    """Whether value is a claim for the case."""
    return _has_word(value) and value[0] in CLAIMS and _are_told(case.task, CLAIMS[value[0]], value)


def _has_word(value):
    return isinstance(value, tuple) and len(value) > 0 and isinstance(value[0], str)


def _are_told(task, kinds, value):
    """Whether there stands behind the word what is asked for, and no more."""
    if len(value) != len(kinds) + 1:
        return False
    told = {}
    for kind, part in zip(kinds, value[1:]):
        if not _is_told(task, told, kind, part):
            return False
        told[kind] = part
    return True


def _is_told(task, told, kind, value):
    """Whether value is what the kind asks for, behind what is told already."""
    if kind == "dislikes":
        return is_dislikes(task, value)
    if kind == "n":
        return is_between(value, 0, MOST_DAYS_ASKED)
    if kind == "fixed":
        return is_fixed(task, told["n"], value)
    if kind == "day":
        return is_between(value, 0, told["n"] - 1)
    if kind == "person":
        return is_between(value, 0, len(task.machines) - 1)
    if kind == "letter":
        return is_between(value, 0, task.machines[0].letters - 1)
    if kind == "mean":
        return is_ratio(value)
    return is_integer(value) and value >= 0


def question_of(case, claim):
    """The question that the claim may answer."""
    if not is_claim(case, claim):
        raise InvalidClaim(claim)
    word = ASKED[claim[0]]
    return (word,) + plain(claim[1:len(QUESTIONS[word]) + 1])


def answer_of(case, question):
    """The claim that answers the question and is true."""
    if not is_question(case, question):
        raise InvalidQuestion(question)
    word, *told = plain(question)
    if word == "endless":
        return _endless_or_ends(case.task)
    if word == "mean":
        return _mean_or_none(case.task, *told)
    if word == "cost":
        return _cost_or_none(case.task, *told)
    return _cell_of(case.task, *told)


def _endless_or_ends(task):
    many = longest(task)
    return ("endless",) if many is None else ("ends", many)


def _mean_or_none(task, dislikes):
    try:
        return "mean", dislikes, least_mean(task, dislikes)
    except Undefined:
        return "no mean", dislikes


def _cost_or_none(task, dislikes, n):
    try:
        return "cost", dislikes, n, sum_behind(task, dislikes, 0, best(task, dislikes, n))
    except Undefined:
        return "no cost", dislikes, n


def _cell_of(task, n, fixed, day, person):
    """Whether the person's letter on the day is forced, open, or none."""
    cell = (n, fixed, day, person)
    try:
        triples = forced(task, n, fixed)
    except Undefined:
        return ("none",) + cell
    letters = [letter for on, who, letter in triples if (on, who) == (day, person)]
    return ("forced",) + cell + (letters[0],) if letters else ("open",) + cell
