"""[22]: papers for claims."""

import itertools
import unittest

from dutyweeks.changes import walls
from dutyweeks.claims import answer_of
from dutyweeks.errors import InvalidQuestion
from dutyweeks.papers import claim_holds, paper_of
from dutyweeks.rounds import heights
from dutyweeks.spans import best_paper
from dutyweeks.tasks import Case
from tests import reckon, reckon_claims
from tests.samples import LONG_CASES, changed, is_plain, odd_values, own
from tests.test_claims import CASE, CLAIMS, DISLIKES, ENDING, NEITHER, QUESTIONS, asked

BEGIN = (0, (0, 0))

# Letter 2 never comes, and person 0 has it or letter 1 on no two days in a row.
THREE = Case(3, ((("never", (2,)), ("never", (1, 1))),), ((),))


def small(value, most=60):
    """Whether the value has few members, counted within, so that it is quickly changed at each place."""
    return len(repr(value)) < most * 10


class PaperOfTest(unittest.TestCase):
    def test_it_holds_for_each_kind_of_claim(self):
        words = {}
        for case, question in asked(120):
            claim, paper = answer_of(case, question), paper_of(case, question)
            self.assertTrue(reckon_claims.has_paper(case, claim, paper), (question, claim))
            self.assertIs(claim_holds(case, claim, paper), True)
            self.assertTrue(is_plain(paper))
            self.assertEqual(paper_of(Case(case.letters, case.rules, case.wants), question), paper)
            words[claim[0]] = words.get(claim[0], 0) + 1
        for word in ("endless", "ends", "mean", "no mean", "cost", "no cost", "forced", "open", "none"):
            self.assertGreater(words.get(word, 0), 5, word)

    def test_the_other_claims_do_not_hold_with_it(self):
        for case, question in asked(121):
            claim, paper = answer_of(case, question), paper_of(case, question)
            for other in reckon_claims.others(case, question, claim):
                self.assertIs(claim_holds(case, other, paper), False)

    def test_papers_of_other_questions(self):
        for case in (CASE, ENDING):
            papers = [paper_of(case, question) for question in QUESTIONS]
            for question, paper in itertools.product(QUESTIONS, papers):
                claim = answer_of(case, question)
                self.assertIs(claim_holds(case, claim, paper), reckon_claims.has_paper(case, claim, paper))

    def test_cases_that_end_behind_many_days(self):
        for many, case in LONG_CASES:
            rota, told = paper_of(case, ("endless",))
            self.assertEqual(len(rota), many)
            self.assertEqual(told, heights(case.task))
            self.assertIs(claim_holds(case, ("ends", many), (rota, told)), True)
            for other in (many - 1, many + 1, 0):
                self.assertIs(claim_holds(case, ("ends", other), (rota, told)), False)
            self.assertIs(claim_holds(case, ("endless",), (rota, told)), False)
            dislikes = (((0, 1),) * len(case.wants),) * len(case.rules)
            self.assertEqual(paper_of(case, ("mean", dislikes)), told)
            self.assertIs(claim_holds(case, ("no mean", dislikes), told), True)

    def test_ten_days(self):
        for question in (("cost", DISLIKES, 10), ("cell", 10, (), 9, 1), ("cell", 10, ((9, 0, 1),), 8, 0)):
            self.assertIs(claim_holds(CASE, answer_of(CASE, question), paper_of(CASE, question)), True)
            self.assertIs(claim_holds(ENDING, answer_of(ENDING, question), paper_of(ENDING, question)), True)

    def test_questions_that_are_none(self):
        for value in CLAIMS[1:] + NEITHER + odd_values():
            with self.assertRaises(InvalidQuestion) as caught:
                paper_of(CASE, value)
            self.assertIs(caught.exception.value, value)

    def test_tuples_of_their_own(self):
        for question in QUESTIONS:
            self.assertEqual(paper_of(CASE, own(question)), paper_of(CASE, question))
            self.assertTrue(is_plain(paper_of(CASE, own(question))))

    def test_by_name(self):
        self.assertEqual(paper_of(case=CASE, question=("endless",)), paper_of(CASE, ("endless",)))


class ClaimHoldsTest(unittest.TestCase):
    def check(self, right, case, claim, paper):
        self.assertIs(claim_holds(case, claim, paper), right)
        self.assertIs(reckon_claims.has_paper(case, claim, paper), right)

    def test_rounds(self):
        for paper, right in ((((), ((0, 1), (0, 1))), True), (((), ((0, 1), (0, 1)) * 3), True), ((((0, 1),), ((0, 0), (0, 1))), True),
                             ((((1, 0),), ((0, 0), (0, 1))), False), (((), ()), False), (((), ((0, 1),)), False),
                             (((), ((1, 0), (1, 0))), False)):
            self.check(right, CASE, ("endless",), paper)

    def test_days_and_heights(self):
        self.check(True, ENDING, ("ends", 1), (((0, 0),), ((BEGIN, 1), ((1, (0, 0)), 0))))
        self.check(True, ENDING, ("ends", 1), (((0, 1),), ((BEGIN, 1), ((1, (0, 0)), 0))))
        # Heights of other numbers are heights, but they have to have the number of days at the beginning.
        self.check(False, ENDING, ("ends", 2), (((0, 0),), ((BEGIN, 2), ((1, (0, 0)), 0))))
        self.check(False, ENDING, ("ends", 1), (((0, 0),), ((BEGIN, 2), ((1, (0, 0)), 0))))
        self.check(False, ENDING, ("ends", 1), (((0, 0),), ((BEGIN, 2), ((1, (0, 0)), 1))))
        self.check(False, ENDING, ("ends", 1), (((0, 0),), ((BEGIN, 1), ((1, (0, 0)), 1))))
        self.check(False, ENDING, ("ends", 1), (((1, 0),), ((BEGIN, 1), ((1, (0, 0)), 0))))
        self.check(False, ENDING, ("ends", 0), ((), ((BEGIN, 1), ((1, (0, 0)), 0))))
        self.check(False, ENDING, ("ends", 1), ((), ((BEGIN, 1), ((1, (0, 0)), 0))))
        self.check(False, ENDING, ("ends", 2), (((0, 0), (0, 1)), ((BEGIN, 2), ((1, (0, 0)), 0))))
        self.check(False, ENDING, ("ends", 1), ((BEGIN, 1), ((1, (0, 0)), 0)))
        nothing = Case(2, ((),), (((0, (0,), 1, 0),),))
        self.check(True, nothing, ("ends", 0), ((), (((0, (0,)), 0),)))
        self.check(False, nothing, ("ends", 1), ((), (((0, (0,)), 1),)))

    def test_means(self):
        paper = paper_of(CASE, ("mean", DISLIKES))
        self.check(True, CASE, ("mean", DISLIKES, (7, 1)), paper)
        for mean in ((8, 1), (6, 1), (15, 2), (-7, 1), (0, 1)):
            self.check(False, CASE, ("mean", DISLIKES, mean), paper)
        raised = paper[:2] + (tuple((state, price + 5) for state, price in paper[2]),)
        self.check(True, CASE, ("mean", DISLIKES, (7, 1)), raised)
        self.check(False, CASE, ("mean", DISLIKES[::-1], (7, 1)), paper)

    def test_heights_for_no_mean(self):
        for paper, right in ((((BEGIN, 1), ((1, (0, 0)), 0)), True), (((BEGIN, 9), ((1, (0, 0)), 3)), True),
                             (((BEGIN, 1), ((1, (0, 0)), 1)), False), (((BEGIN, 1),), False), ((), False)):
            self.check(right, ENDING, ("no mean", DISLIKES), paper)
        self.check(False, CASE, ("no mean", DISLIKES), ((BEGIN, 1), ((0, (1, 0)), 0)))

    def test_costs(self):
        prices = best_paper(CASE.task, DISLIKES, 2)
        for many in range(25):
            for rota in reckon.rotas(CASE.task, 2) + [((1, 1), (0, 0)), ((0, 1),), ()]:
                right = many == 14 and reckon.rota(CASE.task, rota) and len(rota) == 2 and reckon.total(DISLIKES, rota) == 14
                self.check(right, CASE, ("cost", DISLIKES, 2, many), (rota, prices))
        # Prices with a greater one at the beginning do not hold for a dearer rota; with a lesser one for none.
        dearer = [rota for rota in reckon.rotas(CASE.task, 2) if reckon.total(DISLIKES, rota) > 14]
        for rota in dearer:
            many = reckon.total(DISLIKES, rota)
            for price in (many, 14, 13):
                paper = (rota, (((BEGIN, price),),) + prices[1:])
                self.check(False, CASE, ("cost", DISLIKES, 2, many), paper)
        self.check(True, CASE, ("cost", DISLIKES, 0, 0), ((), (((BEGIN, 0),),)))
        for many in (1, 2):
            self.check(False, CASE, ("cost", DISLIKES, 0, many), ((), (((BEGIN, 0),),)))

    def test_walls_for_no_cost(self):
        for n in (2, 3, 10):
            self.check(True, ENDING, ("no cost", DISLIKES, n), walls(ENDING.task, n, ()))
            self.check(False, ENDING, ("no cost", DISLIKES, n - 1), walls(ENDING.task, n, ()))
            self.check(False, ENDING, ("no cost", DISLIKES, n), walls(ENDING.task, n, ())[:-1])
        self.check(False, ENDING, ("no cost", DISLIKES, 1), ((BEGIN,), ()))
        self.check(False, ENDING, ("no cost", DISLIKES, 0), ((BEGIN,),))
        # Walls for what is fixed are none for nothing.
        fixed = ((0, 0, 1), (0, 1, 1))
        self.check(False, CASE, ("no cost", DISLIKES, 3), walls(CASE.task, 3, fixed))
        self.check(True, CASE, ("none", 3, fixed, 2, 0), walls(CASE.task, 3, fixed))

    def test_forced_with_walls_for_the_other_letters(self):
        task, fixed = THREE.task, ((0, 0, 1),)
        claim = ("forced", 2, fixed, 1, 0, 0)
        rota = ((1,), (0,))
        rows = [walls(task, 2, fixed + ((1, 0, letter),)) for letter in (1, 2)]
        self.check(True, THREE, claim, (rota, tuple(rows)))
        self.assertEqual(paper_of(THREE, ("cell",) + claim[1:5]), (rota, tuple(rows)))
        for other in ((), tuple(rows[:1]), tuple(rows[1:]), tuple(rows) + (rows[0],), (rows[0], ()), ((), rows[1])):
            self.check(False, THREE, claim, (rota, other))
        for other in (((0,), (0,)), ((1,), (1,)), ((1,), (2,)), ((1,),), (), ((1,), (0,), (0,))):
            self.check(False, THREE, claim, (other, tuple(rows)))
        for letter in (1, 2):
            self.check(False, THREE, claim[:5] + (letter,), (rota, tuple(rows)))

    def test_forced_in_the_order_of_the_letters(self):
        # Letter 2 is barred on the first day, letter 1 behind it, so the walls are not the same.
        case = Case(3, ((("never", (2, 0)), ("never", (2, 1)), ("never", (2, 2)), ("never", (1,))),), ((),))
        claim = ("forced", 2, (), 0, 0, 0)
        rota, rows = paper_of(case, ("cell", 2, (), 0, 0))
        self.assertEqual(answer_of(case, ("cell", 2, (), 0, 0)), claim)
        self.assertNotEqual(rows[0], rows[1])
        self.check(True, case, claim, (rota, rows))
        self.check(False, case, claim, (rota, rows[::-1]))
        self.check(False, case, claim, (rota, (rows[0], rows[0])))
        self.check(True, case, claim, (rota, (rows[1], rows[1])))

    def test_forced_where_it_is_fixed_already(self):
        for letter in (0, 1):
            fixed = ((1, 0, letter),)
            claim = ("forced", 2, fixed, 1, 0, letter)
            self.assertEqual(answer_of(CASE, ("cell", 2, fixed, 1, 0)), claim)
            rota, rows = paper_of(CASE, ("cell", 2, fixed, 1, 0))
            self.assertEqual(rows, ())
            self.check(True, CASE, claim, (rota, ()))
            for other in reckon.rotas(CASE.task, 2):
                self.check(other[1][0] == letter, CASE, claim, (other, ()))
                self.check(False, CASE, claim, (other, (walls(CASE.task, 2, ((0, 0, 1), (0, 1, 1))),)))
                self.check(False, CASE, claim, (other, ((),)))
                # With another letter there is no paper for it.
                wrong = ("forced", 2, fixed, 1, 0, 1 - letter)
                for rows in ((), ((),), (((BEGIN,), (), ()),)):
                    self.check(False, CASE, wrong, (other, rows))

    def test_forced_in_one_letter_alone(self):
        case = Case(1, ((), ()), ((),))
        claim = ("forced", 1, (), 0, 1, 0)
        self.assertEqual(answer_of(case, ("cell", 1, (), 0, 1)), claim)
        self.assertEqual(paper_of(case, ("cell", 1, (), 0, 1)), (((0, 0),), ()))
        self.check(True, case, claim, (((0, 0),), ()))
        self.check(False, case, claim, (((0, 0),), (((BEGIN,), ()),)))

    def test_another_person_or_day_is_fixed(self):
        # What is fixed for others does not stand in for the walls.
        claim = ("forced", 1, ((0, 1, 1),), 0, 0, 0)
        rows = (walls(CASE.task, 1, ((0, 0, 1), (0, 1, 1))),)
        self.check(True, CASE, claim, (((0, 1),), rows))
        self.check(False, CASE, claim, (((0, 1),), ()))
        self.check(False, CASE, ("forced", 1, (), 0, 0, 0), (((0, 1),), rows))

    def test_open(self):
        claim = ("open", 2, ((1, 1, 1),), 0, 0)
        one, other = ((0, 1), (0, 1)), ((1, 0), (1, 1))
        self.check(True, CASE, claim, (one, other))
        self.check(True, CASE, claim, (other, one))
        for paper in ((one, one), (other, other), (one,), (one, other, one), (one, ((1, 0), (1, 0))), (((0, 1), (0, 0)), other), (one, ()),
                      (one, ((1, 1), (1, 1))), (one + one[:1], other), (one, other + one[:1]), (one[:1], other[:1]), ()):
            self.check(False, CASE, claim, paper)
        # Unlike letters of another person or on another day are not enough.
        self.check(False, CASE, ("open", 2, ((1, 1, 1),), 1, 0), (one, ((1, 0), (0, 1))))
        self.check(True, CASE, ("open", 2, (), 0, 1), (one, other))
        self.check(False, CASE, ("open", 2, (), 1, 1), (one, other))

    def test_none(self):
        fixed = ((0, 0, 1), (0, 1, 1))
        rows = walls(CASE.task, 2, fixed)
        self.check(True, CASE, ("none", 2, fixed, 0, 0), rows)
        self.check(True, CASE, ("none", 2, fixed, 1, 1), rows)
        self.check(False, CASE, ("none", 2, fixed[:1], 0, 0), rows)
        self.check(False, CASE, ("none", 3, fixed, 0, 0), rows)
        self.check(False, CASE, ("none", 2, (), 0, 0), rows)

    def test_claims_that_are_none(self):
        papers = [paper_of(case, question) for case in (CASE, ENDING) for question in QUESTIONS]
        for claim in NEITHER + QUESTIONS[1:] + odd_values():
            for paper in papers + [None, ()]:
                self.assertIs(claim_holds(CASE, claim, paper), False)
                self.assertIs(claim_holds(ENDING, claim, paper), False)

    def test_any_value(self):
        values = odd_values() + [(), [], ((), ()), ((),), ([], [])]
        for case in (CASE, ENDING, THREE):
            for claim in CLAIMS:
                if reckon_claims.is_claim(case, claim):
                    for value in values:
                        self.assertIs(claim_holds(case, claim, value), False)
                        self.assertIs(claim_holds(case, claim, (value, value)), False)

    def test_any_value_within_a_paper(self):
        for case in (CASE, ENDING):
            for question in QUESTIONS:
                claim, paper = answer_of(case, question), paper_of(case, question)
                self.assertIs(claim_holds(case, claim, list(paper)), False)
                for value in odd_values():
                    for k in range(len(paper)):
                        self.assertIs(claim_holds(case, claim, paper[:k] + (value,) + paper[k + 1:]), False)

    def test_changed_at_one_place(self):
        looked = {}
        for case, question in asked(122, 25, 6):
            claim, paper = answer_of(case, question), paper_of(case, question)
            if small(paper) and looked.setdefault(claim[0], 0) < 12:
                looked[claim[0]] += 1
                for value in changed(paper):
                    self.assertIs(claim_holds(case, claim, value), reckon_claims.has_paper(case, claim, value))
        self.assertEqual(len(looked), 9)

    def test_claims_changed_at_one_place(self):
        for case, question in asked(123, 10, 4):
            claim, paper = answer_of(case, question), paper_of(case, question)
            for value in changed(claim):
                if reckon_claims.is_claim(case, value):
                    self.assertIs(claim_holds(case, value, paper), bool(reckon_claims.has_paper(case, value, paper)))
                else:
                    self.assertIs(claim_holds(case, value, paper), False)

    def test_lengthened_up_to_twice(self):
        for case, question in asked(124, 15, 4):
            claim, paper = answer_of(case, question), paper_of(case, question)
            values = [paper * 2, paper + paper[:1], paper + ((),)]
            values += [paper[:k] + (part * 2,) + paper[k + 1:] for k, part in enumerate(paper) if isinstance(part, tuple)]
            for value in values:
                self.assertIs(claim_holds(case, claim, value), reckon_claims.has_paper(case, claim, value))

    def test_tuples_of_their_own(self):
        for question in QUESTIONS:
            for case in (CASE, ENDING):
                claim, paper = answer_of(case, question), paper_of(case, question)
                self.assertIs(claim_holds(case, own(claim), own(paper)), True)

    def test_by_name(self):
        paper = paper_of(CASE, ("endless",))
        self.assertIs(claim_holds(case=CASE, claim=("endless",), paper=paper), True)


if __name__ == "__main__":
    unittest.main()
