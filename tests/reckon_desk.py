"""A desk as the document tells of it, reckoned anew from all deeds that are not undone."""

from dutyweeks.claims import answer_of
from dutyweeks.errors import (
    InvalidNumber, InvalidQuestion, InvalidRules, InvalidWants, NothingToUndo, TooLarge, Undefined)
from dutyweeks.papers import claim_holds, paper_of
from dutyweeks.rules import is_rules
from dutyweeks.tasks import Case
from dutyweeks.wants import is_weekday
from tests import reckon_claims

DEEDS = ("bind", "loose", "ask", "spare", "longer", "shorter", "watch", "leave")


def put(rows, k, row):
    return tuple(row if at == k else other for at, other in enumerate(rows))


def cut(row, k):
    return row[:k] + row[k + 1:]


def is_below(value, bound):
    return reckon_claims.is_number(value, bound)


def after(case, watched, name, told):
    """The case and the watched questions behind a deed; its error is raised."""
    rules, wants, letters, people = case.rules, case.wants, case.letters, len(case.rules)
    if name in ("bind", "loose") and not is_below(told[0], people):
        raise InvalidNumber(told[0])
    if name in ("ask", "spare") and not is_below(told[0], len(wants)):
        raise InvalidNumber(told[0])
    if name == "bind":
        if not is_rules((told[1],), letters) or len(rules[told[0]]) > 3:
            raise InvalidRules(told[1])
        rules = put(rules, told[0], rules[told[0]] + (told[1],))
    elif name == "loose":
        if not is_below(told[1], len(rules[told[0]])):
            raise InvalidNumber(told[1])
        rules = put(rules, told[0], cut(rules[told[0]], told[1]))
    elif name == "ask":
        if not is_weekday((told[1],), people, letters) or len(wants[told[0]]) > 2:
            raise InvalidWants(told[1])
        wants = put(wants, told[0], wants[told[0]] + (told[1],))
    elif name == "spare":
        if not is_below(told[1], len(wants[told[0]])):
            raise InvalidNumber(told[1])
        wants = put(wants, told[0], cut(wants[told[0]], told[1]))
    elif name == "longer":
        if not is_weekday(told[0], people, letters) or len(wants) > 3:
            raise InvalidWants(told[0])
        wants = wants + (told[0],)
    elif name == "shorter":
        if len(wants) == 1:
            raise Undefined("weekday")
        wants = wants[:-1]
    elif name == "watch":
        if not reckon_claims.is_question(case, told[0]):
            raise InvalidQuestion(told[0])
        watched = watched if told[0] in watched else watched + (told[0],)
    elif name == "leave":
        if repr(told[0]) not in [repr(question) for question in watched]:
            raise Undefined("watched")
        watched = tuple(question for question in watched if question != told[0])
    return Case(letters, rules, wants), watched


class PlainDesk:
    def __init__(self, case):
        self.begin = case
        self.done, self.undone = [], []
        self.case, self.watched, self.kept, self.words = case, (), {}, ()

    def do(self, name, *told):
        if name in ("undo", "redo"):
            there, other = (self.done, self.undone) if name == "undo" else (self.undone, self.done)
            if not there:
                raise NothingToUndo(name)
            other.append(there.pop())
        else:
            after(self.case, self.watched, name, told)
            self.done.append((name, told))
            self.undone = []
        ahead = self.watched
        self.case, self.watched = self.begin, ()
        for deed, what in self.done:
            self.case, self.watched = after(self.case, self.watched, deed, what)
        looks = [self.look(question, question in ahead) for question in self.watched]
        self.words = tuple(word for word, _ in looks)
        self.kept = {question: kept for question, (_, kept) in zip(self.watched, looks)}

    def look(self, question, known):
        if not reckon_claims.is_question(self.case, question):
            return "none" if known else "new", (None, None)
        kept = self.kept[question] if known else (None, None)
        if known and kept[0] is not None and claim_holds(self.case, *kept):
            return "kept", kept
        found = (answer_of(self.case, question), paper_of(self.case, question))
        if not known:
            return "new", found
        return "renewed" if found[0] == kept[0] else "changed", found


def error_of(function, *told):
    """What the call raises, as a pair of its class and what it keeps; None if it raises nothing."""
    try:
        if function(*told) is not None:
            return "a deed returns None"
    except (InvalidNumber, InvalidQuestion, InvalidRules, InvalidWants, NothingToUndo, TooLarge, Undefined) as error:
        return type(error), vars(error)
    return None
