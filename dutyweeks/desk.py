"""A desk: a case that is edited, with questions that are watched, their claims and their papers."""

from dutyweeks.checks import is_between, is_same, plain
from dutyweeks.claims import answer_of, is_question
from dutyweeks.errors import InvalidNumber, InvalidQuestion, InvalidRules, InvalidWants, NothingToUndo, Undefined
from dutyweeks.papers import claim_holds, paper_for
from dutyweeks.rules import MOST_RULES, is_rule
from dutyweeks.tasks import Case
from dutyweeks.wants import MOST_WANTS, MOST_WEEKDAYS, is_want, is_weekday

NOTHING_KEPT = (None, None)


class Desk:
    """A case and watched questions, which deeds change, with all that can be undone and redone.

    For each watched question a pair (claim, paper) is kept, of None where it is no question for the case.
    """

    def __init__(self, case):
        self.case = case
        self.watched = ()
        self.many = 0
        self._kept = ()
        self._words = ()
        self._done = ()
        self._undone = ()

    def bind(self, person, rule):
        """Put the rule behind the person's others."""
        _check_below(person, len(self.case.rules))
        if not is_rule(rule, self.case.letters) or len(self.case.rules[person]) == MOST_RULES:
            raise InvalidRules(rule)
        own = self.case.rules[person] + (rule,)
        self._edit(_changed(self.case.rules, person, own), self.case.wants)

    def loose(self, person, k):
        """Take the person's k-th rule out."""
        _check_below(person, len(self.case.rules))
        own = self.case.rules[person]
        _check_below(k, len(own))
        self._edit(_changed(self.case.rules, person, _without(own, k)), self.case.wants)

    def ask(self, weekday, want):
        """Put the want behind the weekday's others."""
        _check_below(weekday, len(self.case.wants))
        known = is_want(want, len(self.case.rules), self.case.letters)
        if not known or len(self.case.wants[weekday]) == MOST_WANTS:
            raise InvalidWants(want)
        row = self.case.wants[weekday] + (want,)
        self._edit(self.case.rules, _changed(self.case.wants, weekday, row))

    def spare(self, weekday, k):
        """Take the weekday's k-th want out."""
        _check_below(weekday, len(self.case.wants))
        row = self.case.wants[weekday]
        _check_below(k, len(row))
        self._edit(self.case.rules, _changed(self.case.wants, weekday, _without(row, k)))

    def longer(self, row):
        """Put a weekday with these wants behind the others."""
        known = is_weekday(row, len(self.case.rules), self.case.letters)
        if not known or len(self.case.wants) == MOST_WEEKDAYS:
            raise InvalidWants(row)
        self._edit(self.case.rules, self.case.wants + (row,))

    def shorter(self):
        """Take the last weekday out."""
        if len(self.case.wants) == 1:
            raise Undefined("weekday")
        self._edit(self.case.rules, self.case.wants[:-1])

    def watch(self, question):
        """Watch the question from now on."""
        if not is_question(self.case, question):
            raise InvalidQuestion(question)
        watched = self.watched
        if self._place(question) is None:
            watched = watched + (plain(question),)
        self._do(self.case, watched)

    def leave(self, question):
        """Watch the question no longer."""
        self._do(self.case, _without(self.watched, self._watched_place(question)))

    def undo(self):
        """Undo the last deed that is not undone."""
        if not self._done:
            raise NothingToUndo("undo")
        self._turn(self._done[-1], self._done[:-1], self._undone + ((self.case, self.watched),))

    def redo(self):
        """Do the last undone deed again."""
        if not self._undone:
            raise NothingToUndo("redo")
        self._turn(self._undone[-1], self._done + ((self.case, self.watched),), self._undone[:-1])

    def claim(self, question):
        """The claim that is kept for the watched question, None if it is no question for the case."""
        return self._kept[self._watched_place(question)][0]

    def paper(self, question):
        """The paper that is kept for the watched question, None if it is no question for the case."""
        return self._kept[self._watched_place(question)][1]

    def report(self):
        """For each watched question what the last deed made of it."""
        return self._words

    def _place(self, question):
        """The place of the question among the watched ones, None if it is none of them."""
        for place in range(len(self.watched)):
            if is_same(question, self.watched[place]):
                return place
        return None

    def _watched_place(self, question):
        place = self._place(question)
        if place is None:
            raise Undefined("watched")
        return place

    def _edit(self, rules, wants):
        """Do a deed that makes the case one of these rules and wants."""
        self._do(Case(self.case.letters, rules, wants), self.watched)

    def _do(self, case, watched):
        """Do a new deed, which ends what can be redone."""
        self._turn((case, watched), self._done + ((self.case, self.watched),), ())

    def _turn(self, now, done, undone):
        """Make case and watched questions what they are now, and look at each of these.

        All is reckoned first, so that nothing changes if anything is raised.
        """
        case, watched = now
        looks = [self._look(case, question) for question in watched]
        self.case, self.watched = case, watched
        self._words = tuple([word for word, _ in looks])
        self._kept = tuple([kept for _, kept in looks])
        self._done, self._undone = done, undone
        self.many = len(done)

    def _look(self, case, question):
        """What becomes of the question, watched so far or not, if the case is this one: a word, and what is kept."""
        place = self._place(question)
        known = is_question(case, question)
        if place is None:
            return "new", _kept_anew(case, question) if known else NOTHING_KEPT
        if not known:
            return "none", NOTHING_KEPT
        claim, paper = self._kept[place]
        if claim_holds(case, claim, paper):
            return "kept", (claim, paper)
        kept = _kept_anew(case, question)
        return ("renewed" if kept[0] == claim else "changed"), kept


def _kept_anew(case, question):
    """The claim that answers the question, and a paper for it."""
    claim = answer_of(case, question)
    return claim, paper_for(case, claim)


def _check_below(value, bound):
    if not is_between(value, 0, bound - 1):
        raise InvalidNumber(value)


def _changed(rows, k, row):
    """The rows with another one at place k."""
    return rows[:k] + (row,) + rows[k + 1:]


def _without(members, k):
    return members[:k] + members[k + 1:]


def same_state(one, other):
    """Whether two desks have equal cases, watched questions, claims and papers, and as much to be undone and redone."""
    if one.case != other.case or one.watched != other.watched or one._kept != other._kept:
        return False
    return len(one._done) == len(other._done) and len(one._undone) == len(other._undone)
