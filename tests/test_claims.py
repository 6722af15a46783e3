"""[21]: questions, claims, and which one is true."""

import random
import unittest

from dutyweeks.claims import answer_of, is_claim, is_question, question_of
from dutyweeks.errors import InvalidClaim, InvalidQuestion
from dutyweeks.tasks import Case
from tests import reckon, reckon_claims
from tests.samples import LONG_CASES, Tuple, changed, is_plain, odd_values, own

# Letter 1 on at most two days in a row, and one of both wants it on each weekday 0.
CASE = Case(2, ((("most", 1, 2),), ()), (((1, (0, 1), 1, 1),), ()))
DISLIKES = (((1, 9), (2, 8)), ((3, 7), (4, 6)))

# Person 0 never has letter 1, and wants of two letters on weekday 1 can't be met together.
ENDING = Case(2, ((("never", (1,)),), ()), ((), ((1, (0, 1), 1, 1), (1, (1,), 0, 0))))

QUESTIONS = [
    ("endless",), ("mean", DISLIKES), ("cost", DISLIKES, 0), ("cost", DISLIKES, 10), ("cell", 1, (), 0, 1),
    ("cell", 10, ((0, 0, 1), (9, 1, 0)), 9, 1), ("cell", 3, ((1, 0, 1),), 2, 0)]
CLAIMS = [
    ("endless",), ("ends", 0), ("ends", 10 ** 11), ("mean", DISLIKES, (7, 2)), ("mean", DISLIKES, (-7, 2)), ("mean", DISLIKES, (0, 1)),
    ("no mean", DISLIKES), ("cost", DISLIKES, 10, 0), ("cost", DISLIKES, 0, 10 ** 11), ("no cost", DISLIKES, 10), ("no cost", DISLIKES, 0),
    ("forced", 3, ((1, 0, 1),), 2, 0, 1), ("forced", 10, (), 9, 1, 0), ("forced", 3, ((1, 0, 1),), 1, 0, 0),
    ("open", 3, ((1, 0, 1),), 2, 0), ("none", 10, (), 9, 1), ("none", 1, ((0, 0, 0),), 0, 0)]

# One kind's words with what another kind tells, and what is beyond a bound.
NEITHER = [
    (), ("",), ("ending",), ("Endless",), ("endless ",), ("endless", 0), ("endless", ()), ("endless", None), (("endless",),), ("mean",),
    ("mean", DISLIKES[0]), ("mean", ()), ("mean", (((1, 9),), ((3, 7),))), ("cost", DISLIKES, 11), ("cost", DISLIKES, -1),
    ("cost", DISLIKES, True), ("cost", DISLIKES, None), ("cost", 3, DISLIKES), ("cost", DISLIKES, (3,)), ("cell",), ("cell", 3),
    ("cell", 3, ()), ("cell", 3, (), 0), ("cell", 3, (), 3, 0), ("cell", 3, (), -1, 0), ("cell", 3, (), 0, 2), ("cell", 3, (), 0, -1),
    ("cell", 0, (), 0, 0), ("cell", 11, (), 0, 0), ("cell", 3, ((3, 0, 0),), 0, 0), ("cell", 3, ((1, 0, 0), (0, 0, 0)), 0, 0),
    ("cell", 3, [], 0, 0), ("cell", 3, (), True, 0), ("cell", 3, (), 0, True), ("cell", True, (), 0, 0), ("cell", None, (), 0, 0),
    ("cell", 3, None, 0, 0), ("cell", 3, (), None, 0), ("cell", 3, (), 0, None), ("cell", 3, (), 0, 0, 0), ("cell", "3", (), 0, 0),
    ("ends",), ("ends", -1), ("ends", True), ("ends", None), ("ends", "3"), ("ends", (3,)), ("ends", 3, 3), ("mean", DISLIKES, (2, 4)),
    ("mean", DISLIKES, (1, 0)), ("mean", DISLIKES, (1, -1)), ("mean", DISLIKES, (1,)), ("mean", DISLIKES, 1), ("mean", DISLIKES, None),
    ("mean", DISLIKES, (1, True)), ("mean", DISLIKES, [1, 1]), ("mean", DISLIKES, (1, 1), 0), ("no mean",), ("no mean", DISLIKES, (1, 1)),
    ("no mean", ()), ("cost", DISLIKES, 3, -1), ("cost", DISLIKES, 3, True), ("cost", DISLIKES, 3, None), ("cost", DISLIKES, 11, 3),
    ("cost", DISLIKES, 3, 3, 3), ("no cost", DISLIKES), ("no cost", DISLIKES, 11), ("no cost", DISLIKES, 3, 3), ("no cost", (), 3),
    ("forced", 3, (), 0, 0), ("forced", 3, (), 0, 0, 2), ("forced", 3, (), 0, 0, -1), ("forced", 3, (), 0, 0, True),
    ("forced", 3, (), 0, 0, None), ("forced", 3, (), 3, 0, 0), ("forced", 3, (), 0, 2, 0), ("forced", 11, (), 0, 0, 0),
    ("forced", 3, (), 0, 0, 0, 0), ("open", 3, (), 0), ("open", 3, (), 0, 0, 0), ("open", 3, (), 3, 0), ("open", 3, (), 0, 2),
    ("open", 11, (), 0, 0), ("open", 0, (), 0, 0), ("none", 3, (), 0), ("none", 3, (), 0, 0, 0), ("none", 3, (), 3, 0), ("none", 0, (), 0, 0),
    ("none", 3, ((0, 0, 2),), 0, 0), ("no cell", 3, (), 0, 0), ["endless"], "endless", (None,), (0,), (True,)]


def cases(seed, many=60):
    """Cases of all kinds, also ones that end, that have not very many rotas of few days."""
    found = [CASE, ENDING] + reckon.random_cases(seed, many)
    ending = [case for case in reckon.random_cases(seed + 1, many * 3) if reckon.longest(case.task) is not None]
    return found + ending[:many // 3]


def asked(seed, many=60, each=8):
    """Pairs of a case and a question for it."""
    source = random.Random(seed)
    found = []
    for case in cases(seed, many):
        most = 3
        while len(reckon.deals_of(case.task)) ** most > 800:
            most -= 1
        found += [(case, reckon_claims.random_question(source, case, most)) for _ in range(each)]
    return found


class IsQuestionTest(unittest.TestCase):
    def test_each_kind(self):
        for value in QUESTIONS:
            self.assertIs(is_question(CASE, value), True)
            self.assertTrue(reckon_claims.is_question(CASE, value))

    def test_claims_and_what_are_neither(self):
        for value in CLAIMS[1:] + NEITHER:
            self.assertIs(is_question(CASE, value), False)

    def test_changed_at_one_place(self):
        for value in QUESTIONS:
            for other in changed(value):
                self.assertIs(is_question(CASE, other), reckon_claims.is_question(CASE, other))

    def test_days_and_people(self):
        for n in range(13):
            self.assertIs(is_question(CASE, ("cost", DISLIKES, n)), n <= 10)
            for day in range(13):
                for person in range(4):
                    self.assertIs(is_question(CASE, ("cell", n, (), day, person)), n <= 10 and day < n and person < 2)

    def test_another_case(self):
        weekday_more = Case(2, CASE.rules, CASE.wants + ((),))
        person_more = Case(2, CASE.rules + ((),), CASE.wants)
        letter_more = Case(3, CASE.rules, CASE.wants)
        for value in QUESTIONS:
            tells_dislikes = value[0] in ("mean", "cost")
            for case in (weekday_more, person_more, letter_more):
                self.assertIs(is_question(case, value), not tells_dislikes)
        self.assertIs(is_question(Case(2, ((),), ((), ())), ("cell", 1, (), 0, 1)), False)
        self.assertIs(is_question(letter_more, ("cell", 1, ((0, 0, 2),), 0, 1)), True)

    def test_any_value(self):
        for value in odd_values():
            self.assertIs(is_question(CASE, value), False)
            self.assertIs(is_question(CASE, (value,)), False)
            self.assertIs(is_question(CASE, ("endless", value)), False)
            self.assertIs(is_question(CASE, ("mean", value)), False)
            self.assertIs(is_question(CASE, ("cost", value, 3)), False)
            self.assertIs(is_question(CASE, ("cost", DISLIKES, value)), False)
            for k in range(1, 5):
                told = ["cell", 3, (), 0, 0]
                told[k] = value
                self.assertIs(is_question(CASE, tuple(told)), False)

    def test_lists(self):
        for value in QUESTIONS:
            self.assertIs(is_question(CASE, list(value)), False)
            self.assertIs(is_question(CASE, own(value)), True)

    def test_by_name(self):
        self.assertIs(is_question(case=CASE, value=("endless",)), True)


class IsClaimTest(unittest.TestCase):
    def test_each_kind(self):
        for value in CLAIMS:
            self.assertIs(is_claim(CASE, value), True)
            self.assertTrue(reckon_claims.is_claim(CASE, value))

    def test_questions_and_what_are_neither(self):
        for value in QUESTIONS[1:] + NEITHER:
            self.assertIs(is_claim(CASE, value), False)

    def test_changed_at_one_place(self):
        for value in CLAIMS:
            for other in changed(value):
                self.assertIs(is_claim(CASE, other), reckon_claims.is_claim(CASE, other))

    def test_any_value(self):
        for value in odd_values():
            self.assertIs(is_claim(CASE, value), False)
            self.assertIs(is_claim(CASE, (value,)), False)
            self.assertIs(is_claim(CASE, ("ends", value)), reckon_claims.is_number(value))
            self.assertIs(is_claim(CASE, ("no mean", value)), False)
            self.assertIs(is_claim(CASE, ("mean", DISLIKES, value)), False)
            self.assertIs(is_claim(CASE, ("cost", DISLIKES, 3, value)), reckon_claims.is_number(value))
            for k in range(1, 6):
                told = ["forced", 3, (), 0, 0, 0]
                told[k] = value
                self.assertIs(is_claim(CASE, tuple(told)), False)
                self.assertIs(is_claim(CASE, ("open",) + tuple(told[1:5])), k == 5)

    def test_lists(self):
        for value in CLAIMS:
            self.assertIs(is_claim(CASE, list(value)), False)
            self.assertIs(is_claim(CASE, own(value)), True)

    def test_by_name(self):
        self.assertIs(is_claim(case=CASE, value=("endless",)), True)


class AnswerOfTest(unittest.TestCase):
    def test_against_plain_reckoning(self):
        words = {}
        for case, question in asked(110):
            claim = answer_of(case, question)
            self.assertEqual(claim, reckon_claims.answer(case, question))
            self.assertTrue(is_plain(claim))
            self.assertIs(is_claim(case, claim), True)
            self.assertEqual(answer_of(Case(case.letters, case.rules, case.wants), question), claim)
            words[claim[0]] = words.get(claim[0], 0) + 1
        for word in ("endless", "ends", "mean", "no mean", "cost", "no cost", "forced", "open", "none"):
            self.assertGreater(words.get(word, 0), 5, word)

    def test_the_greatest_number_of_days(self):
        for many, case in LONG_CASES:
            self.assertEqual(answer_of(case, ("endless",)), ("ends", many))
        self.assertEqual(answer_of(CASE, ("endless",)), ("endless",))
        self.assertEqual(answer_of(ENDING, ("endless",)), ("ends", 1))

    def test_means_and_costs(self):
        self.assertEqual(answer_of(CASE, ("mean", DISLIKES)), ("mean", DISLIKES, (7, 1)))
        self.assertEqual(answer_of(CASE, ("cost", DISLIKES, 2)), ("cost", DISLIKES, 2, 14))
        self.assertEqual(answer_of(CASE, ("cost", DISLIKES, 10)), ("cost", DISLIKES, 10, 70))
        self.assertEqual(answer_of(CASE, ("cost", DISLIKES, 0)), ("cost", DISLIKES, 0, 0))
        self.assertEqual(answer_of(ENDING, ("mean", DISLIKES)), ("no mean", DISLIKES))
        self.assertEqual(answer_of(ENDING, ("cost", DISLIKES, 1)), ("cost", DISLIKES, 1, 4))
        self.assertEqual(answer_of(ENDING, ("cost", DISLIKES, 2)), ("no cost", DISLIKES, 2))

    def test_cells(self):
        for question, word in (
                (("cell", 3, (), 0, 0), ("open",)), (("cell", 3, ((0, 1, 1),), 0, 0), ("forced", 0)),
                (("cell", 3, ((0, 1, 0),), 0, 0), ("forced", 1)), (("cell", 3, ((0, 1, 1),), 0, 1), ("forced", 1)),
                (("cell", 3, ((0, 0, 1), (1, 0, 1)), 2, 0), ("forced", 0)), (("cell", 3, ((0, 0, 1), (1, 0, 1)), 2, 1), ("forced", 1)),
                (("cell", 3, ((0, 0, 1), (0, 1, 1)), 2, 0), ("none",)), (("cell", 3, ((0, 0, 1), (1, 0, 1), (2, 0, 1)), 0, 1), ("none",))):
            claim = answer_of(CASE, question)
            self.assertEqual(claim, word[:1] + question[1:] + word[1:])

    def test_questions_that_are_none(self):
        for value in CLAIMS[1:] + NEITHER + odd_values():
            with self.assertRaises(InvalidQuestion) as caught:
                answer_of(CASE, value)
            self.assertIs(caught.exception.value, value)

    def test_tuples_of_their_own(self):
        for question in QUESTIONS:
            claim = answer_of(CASE, own(question))
            self.assertEqual(claim, answer_of(CASE, question))
            self.assertTrue(is_plain(claim))

    def test_by_name(self):
        self.assertEqual(answer_of(case=CASE, question=("endless",)), ("endless",))


class QuestionOfTest(unittest.TestCase):
    def test_the_question_that_it_may_answer(self):
        for claim, question in (
                (("endless",), ("endless",)), (("ends", 3), ("endless",)), (("mean", DISLIKES, (1, 2)), ("mean", DISLIKES)),
                (("no mean", DISLIKES), ("mean", DISLIKES)), (("cost", DISLIKES, 3, 4), ("cost", DISLIKES, 3)),
                (("no cost", DISLIKES, 3), ("cost", DISLIKES, 3)),
                (("forced", 3, ((1, 0, 1),), 2, 0, 1), ("cell", 3, ((1, 0, 1),), 2, 0)),
                (("open", 3, ((1, 0, 1),), 2, 0), ("cell", 3, ((1, 0, 1),), 2, 0)),
                (("none", 3, ((1, 0, 1),), 2, 0), ("cell", 3, ((1, 0, 1),), 2, 0))):
            self.assertEqual(question_of(CASE, claim), question)
            self.assertTrue(is_plain(question_of(CASE, own(claim))))

    def test_of_all_claims_that_may_answer(self):
        for case, question in asked(111, 20):
            claim = answer_of(case, question)
            for other in [claim] + reckon_claims.others(case, question, claim):
                self.assertIs(is_claim(case, other), True)
                self.assertEqual(question_of(case, other), question)

    def test_claims_that_are_none(self):
        for value in QUESTIONS[1:] + NEITHER + odd_values():
            with self.assertRaises(InvalidClaim) as caught:
                question_of(CASE, value)
            self.assertIs(caught.exception.value, value)

    def test_by_name(self):
        self.assertEqual(question_of(case=CASE, claim=("ends", 3)), ("endless",))


if __name__ == "__main__":
    unittest.main()
