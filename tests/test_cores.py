"""[12]: parts of cases, cores, and the papers for them."""

import random
import unittest

from dutyweeks.cores import core, core_holds, core_paper, parts, with_parts
from dutyweeks.errors import InvalidPart, TooLarge, Undefined
from dutyweeks.rounds import heights, round_of
from dutyweeks.rules import keeps
from dutyweeks.tasks import Case
from tests import reckon
from tests.samples import Tuple, changed, is_plain, odd_values

# Both are to have letter 1 on weekday 0, which person 1 may never have; the rest is not needed for the end.
ENDING = Case(
    2, ((("most", 1, 3),), (("most", 0, 3), ("never", (1,)))),
    (((1, (0, 1), 2, 2), (0, (0,), 0, 1)), ((1, (0,), 0, 1),)))
NEEDED = (("rule", 1, 1), ("want", 0, 0))

ENDLESS = Case(2, ((("most", 1, 2),),), (((1, (0,), 1, 1),), ()))

# The first rule and the wants end it, but without that rule the machine has 16 states.
TOO_LARGE = Case(3, ((("least", 1, 3), ("every", 0, 4), ("every", 2, 4)),), (((2, (0,), 0, 0),),))

# Nothing on the way is too large. Person 0 never has letter 2 for good (two rules), person 1 is free on weekday 0, and
# person 2 can't be on letter 2 on each weekday 0, also without the first rule, which keeps its machine small. In the
# core less the first rule of person 0 the machines have 4, 4 and 5 states.
TOO_LARGE_AT_LAST = Case(
    3,
    ((("never", (2, 2)), ("least", 2, 3)), (("every", 0, 4),), (("never", (2,)), ("every", 0, 4), ("never", (0, 2)))),
    (((2, (0, 1, 2), 1, 3),), ((0, (1, 2), 0, 0),), ((0, (1, 2), 0, 0),), ((0, (1,), 0, 0),)))
LEFT_AT_LAST = tuple(part for part in parts(TOO_LARGE_AT_LAST) if part != ("rule", 2, 0))


def ending():
    return [ENDING] + [case for case in reckon.random_cases(20, 120) if reckon.longest(case.task) is not None]


def large_cases():
    """Ending cases in which many sets of fewer rules need many states."""
    source = random.Random(25)
    fewer_states = (("never", (2,)), ("never", (2, 2)), ("least", 2, 3), ("most", 2, 1), ("never", (0,)))
    cases = []
    while len(cases) < 24:
        pairs = [[source.choice(fewer_states), ("every", 0, source.randint(3, 4)), ("every", 1, 4)] for _ in range(2)]
        pairs = [tuple(source.sample(pair, 3)) for pair in pairs]
        try:
            cases.append(Case(3, tuple(pairs[:source.randint(1, 2)]), (((1, (0,), 1, 0),),)))
        except TooLarge:
            pass
    return cases


def are_parts(case, value):
    """Whether value is an ascending tuple of parts of the case; they are told by what they look like, bools too."""
    there = [repr(part) for part in parts(case)]
    if type(value) is not tuple or not all(repr(part) in there for part in value):
        return False
    places = [there.index(repr(part)) for part in value]
    return places == sorted(set(places))


def with_paper():
    """Ending cases of which no core is too large."""
    cases = []
    for case in ending():
        try:
            core(case)
            cases.append(case)
        except TooLarge:
            pass
    return cases


class PartsTest(unittest.TestCase):
    def test_all_parts_ascending(self):
        self.assertEqual(parts(ENDING), (
            ("rule", 0, 0), ("rule", 1, 0), ("rule", 1, 1), ("want", 0, 0), ("want", 0, 1), ("want", 1, 0)))
        for case in reckon.random_cases(21, 60):
            there = [("rule", person, k) for person, rules in enumerate(case.rules) for k in range(len(rules))]
            there += [("want", weekday, k) for weekday, wants in enumerate(case.wants) for k in range(len(wants))]
            self.assertEqual(parts(case), tuple(sorted(there)))
            self.assertTrue(is_plain(parts(case)))

    def test_none(self):
        self.assertEqual(parts(Case(1, ((), (), ()), ((), ()))), ())

    def test_the_greatest_number(self):
        case = Case(2, ((("most", 1, 1),) * 4,) * 3, (((1, (0,), 0, 1),) * 3,) * 4)
        self.assertEqual(len(parts(case)), 24)
        self.assertEqual(parts(case)[-1], ("want", 3, 2))
        self.assertEqual(parts(case)[11], ("rule", 2, 3))

    def test_by_name(self):
        self.assertEqual(parts(case=ENDING), parts(ENDING))


class WithPartsTest(unittest.TestCase):
    def test_all_none_and_some(self):
        self.assertEqual(with_parts(ENDING, parts(ENDING)), ENDING)
        self.assertEqual(with_parts(ENDING, ()), Case(2, ((), ()), ((), ())))
        some = (("rule", 1, 1), ("want", 0, 1), ("want", 1, 0))
        self.assertEqual(with_parts(ENDING, some), Case(
            2, ((), (("never", (1,)),)), (((0, (0,), 0, 1),), ((1, (0,), 0, 1),))))

    def test_any_of_the_parts(self):
        for case in reckon.random_cases(22, 30):
            for step in (2, 3):
                some = parts(case)[::step]
                self.assertEqual(with_parts(case, some), reckon.case_of(case, some))

    def test_each_way_of_leaving_out(self):
        for bits in range(64):
            some = tuple(part for k, part in enumerate(parts(ENDING)) if bits >> k & 1)
            self.assertEqual(with_parts(ENDING, some), reckon.case_of(ENDING, some))

    def test_parts_in_another_order_or_twice(self):
        one, two = NEEDED
        for some in ((two, one), (one, one), (two, two), (one, two, two), parts(ENDING)[::-1], parts(ENDING) * 2):
            self.check_invalid(some)

    def test_no_parts_of_the_case(self):
        for part in (("rule", 2, 0), ("rule", 0, 1), ("rule", 1, 2), ("want", 2, 0), ("want", 0, 2), ("want", 1, 1),
                     ("rule", -1, 0), ("rule", 0, -1), ("want", 0, -1), ("rule", False, 0), ("rule", 0, False),
                     ("want", True, 0), ("rules", 0, 0), ("", 0, 0), (None, 0, 0), (0, 0, 0), ("rule", 0), ("rule",), (),
                     ("rule", 0, 0, 0), ("rule", None, 0), ("rule", 0, None), ("rule", "0", 0), ["rule", 0, 0],
                     ("rule", (0,), 0), "rule"):
            self.check_invalid((part,))
            self.check_invalid((part,) + NEEDED)
            self.check_invalid(NEEDED + (part,))

    def test_any_value(self):
        for value in odd_values() + [list(NEEDED), [], (NEEDED,), list(NEEDED[0])]:
            self.check_invalid(value)
            self.check_invalid((value,))
            self.check_invalid((("rule", value, 0),))

    def check_invalid(self, some):
        with self.assertRaises(InvalidPart) as caught:
            with_parts(ENDING, some)
        self.assertIs(caught.exception.value, some)

    def test_too_large(self):
        for case, some, many in ((TOO_LARGE, parts(TOO_LARGE)[1:], 16), (TOO_LARGE_AT_LAST, LEFT_AT_LAST[1:], 80)):
            with self.assertRaises(TooLarge) as caught:
                with_parts(case, some)
            self.assertEqual(caught.exception.many, many)

    def test_parts_are_looked_at_first(self):
        with self.assertRaises(InvalidPart):
            with_parts(TOO_LARGE, parts(TOO_LARGE)[1:] + (("want", 0, 1),))

    def test_tuples_of_their_own(self):
        some = Tuple([Tuple(part) for part in NEEDED])
        self.assertEqual(with_parts(ENDING, some), with_parts(ENDING, NEEDED))
        self.assertTrue(is_plain(with_parts(ENDING, some).rules))

    def test_by_name(self):
        self.assertEqual(with_parts(case=ENDING, some=NEEDED), with_parts(ENDING, NEEDED))


class CoreTest(unittest.TestCase):
    def test_what_is_needed(self):
        self.assertEqual(core(ENDING), NEEDED)

    def test_a_part_that_ends_by_itself(self):
        case = Case(2, ((),), ((), ((0, (0,), 0, 1), (1, (0,), 1, 0))))
        self.assertEqual(core(case), (("want", 1, 1),))

    def test_of_two_that_do_the_first_is_left_out(self):
        case = Case(2, ((("never", (0,)), ("never", (1,)), ("every", 0, 1)),), (((1, (0,), 1, 0),), ((1, (0,), 1, 0),)))
        self.assertEqual(core(case), (("want", 1, 0),))
        case = Case(2, ((("never", (0,)), ("never", (1,)), ("every", 0, 1)),), ((),))
        self.assertEqual(core(case), (("rule", 0, 0), ("rule", 0, 2)))
        case = Case(2, ((("never", (0,)), ("never", (1,)), ("most", 1, 1)),), ((),))
        self.assertEqual(core(case), (("rule", 0, 0), ("rule", 0, 2)))

    def test_as_the_document_goes_through_the_parts(self):
        sizes = set()
        for case in with_paper():
            self.assertEqual(core(case), reckon.core(case, parts(case)))
            self.assertTrue(is_plain(core(case)))
            sizes.add(len(core(case)))
        self.assertLessEqual({1, 2, 3}, sizes)

    def test_endless(self):
        for case in [ENDLESS] + [case for case in reckon.random_cases(23, 60) if reckon.longest(case.task) is None]:
            for function in (core, core_paper):
                with self.assertRaises(Undefined) as caught:
                    function(case)
                self.assertEqual(caught.exception.what, "endless")

    def test_endless_is_told_first(self):
        case = Case(3, ((("never", (2,)), ("every", 0, 4), ("every", 1, 4)),), ((),))
        with self.assertRaises(Undefined):
            core(case)

    def test_too_large_on_the_way(self):
        for function in (core, core_paper):
            with self.assertRaises(TooLarge) as caught:
                function(TOO_LARGE)
            self.assertEqual(caught.exception.many, 16)

    def test_too_large_by_the_order_of_the_parts(self):
        # Without "never" the two others need 16 states; where they are left out ahead of it, nothing is too large.
        rules = (("every", 0, 4), ("every", 1, 4), ("never", (2,)))
        wants = (((1, (0,), 1, 0),),)
        self.assertEqual(core(Case(3, (rules,), wants)), (("want", 0, 0),))
        with self.assertRaises(TooLarge):
            core(Case(3, (rules[::-1],), wants))

    def test_too_large_at_last(self):
        for function in (core, core_paper):
            with self.assertRaises(TooLarge) as caught:
                function(TOO_LARGE_AT_LAST)
            self.assertEqual(caught.exception.many, 80)

    def test_the_first_that_is_too_large(self):
        sixteen = (("never", (1,)), ("every", 0, 4), ("every", 2, 4))
        seventeen = (("never", (2,)), ("every", 0, 4), ("most", 0, 2), ("every", 1, 4))
        for rules, many in (((sixteen, seventeen), 16), ((seventeen, sixteen), 17)):
            with self.assertRaises(TooLarge) as caught:
                core(Case(3, rules, (((0, (0,), 1, 0),),)))
            self.assertEqual(caught.exception.many, many)

    def test_too_large_as_the_document_goes_through_the_parts(self):
        raised = []
        for case in large_cases():
            try:
                expected = reckon.core(case, parts(case))
            except TooLarge as told:
                raised.append(told.many)
                for function in (core, core_paper):
                    with self.assertRaises(TooLarge) as caught:
                        function(case)
                    self.assertEqual(caught.exception.many, told.many)
            else:
                self.assertEqual(core(case), expected)
        self.assertGreater(len(raised), 5)
        self.assertLess(len(raised), 20)

    def test_by_name(self):
        self.assertEqual(core(case=ENDING), NEEDED)
        self.assertEqual(core_paper(case=ENDING), core_paper(ENDING))


class CorePaperTest(unittest.TestCase):
    def test_heights_and_rounds(self):
        told, rounds = core_paper(ENDING)
        self.assertEqual(told, heights(with_parts(ENDING, NEEDED).task))
        self.assertEqual(len(rounds), 2)
        for part, value in zip(NEEDED, rounds):
            self.assertTrue(reckon.round_(with_parts(ENDING, reckon.less(NEEDED, part)).task, value))

    def test_it_holds(self):
        self.assertGreater(len(with_paper()), 30)
        for case in with_paper():
            some, paper = core(case), core_paper(case)
            self.assertTrue(reckon.core_paper(case, some, paper))
            self.assertIs(core_holds(case, some, paper), True)
            self.assertTrue(is_plain(paper))
            self.assertEqual(core_paper(Case(case.letters, case.rules, case.wants)), paper)


class CoreHoldsTest(unittest.TestCase):
    def setUp(self):
        self.paper = core_paper(ENDING)

    def test_other_heights_and_rounds(self):
        told, rounds = self.paper
        more = tuple((state, number + 5) for state, number in told)
        self.assertIs(core_holds(ENDING, NEEDED, (more, rounds)), True)
        longer = tuple((ahead + again, again * 3) for ahead, again in rounds)
        self.assertIs(core_holds(ENDING, NEEDED, (told, longer)), True)
        less_one = tuple((state, number - 1) for state, number in told)
        self.assertIs(core_holds(ENDING, NEEDED, (less_one, rounds)), False)

    def test_rounds_in_another_order(self):
        told, rounds = self.paper
        self.assertIs(core_holds(ENDING, NEEDED, (told, rounds[::-1])), False)
        for rounds in ((rounds[0],) * 2, (rounds[1],) * 2, rounds[:1], rounds[1:], rounds + rounds[:1], (), list(rounds)):
            self.assertIs(core_holds(ENDING, NEEDED, (told, rounds)), False)

    def test_one_part_more_or_less(self):
        told, rounds = self.paper
        for part in parts(ENDING):
            more = tuple(sorted(set(NEEDED + (part,))))
            self.assertIs(core_holds(ENDING, more, self.paper), more == NEEDED)
            if more != NEEDED:
                for value in rounds:
                    self.assertIs(core_holds(ENDING, more, (told, rounds + (value,))), False)
        for some in (NEEDED[:1], NEEDED[1:], ()):
            self.assertIs(core_holds(ENDING, some, self.paper), False)
            self.assertIs(core_holds(ENDING, some, (told, rounds[:len(some)])), False)

    def test_it_need_not_be_the_core(self):
        case = Case(2, ((("never", (0,)), ("never", (1,)), ("every", 0, 1)),), ((),))
        self.assertEqual(core(case), (("rule", 0, 0), ("rule", 0, 2)))
        ones = ((), ((1,),))
        some = (("rule", 0, 0), ("rule", 0, 1))
        self.assertIs(core_holds(case, some, ((((0, (0,)), 0),), (((), ((0,),)), ones))), True)
        self.assertIs(core_holds(case, some, ((((0, (0,)), 0),), (ones, ((), ((0,),))))), False)
        self.assertIs(core_holds(case, parts(case), ((((0, (0,)), 0),), (((), ((0,),)), ones, ones))), False)

    def test_some_that_are_no_parts(self):
        one, two = NEEDED
        for some in ((two, one), (one, one), NEEDED + (("want", 2, 0),), (("rule", True, 1), two), list(NEEDED), one):
            self.assertIs(core_holds(ENDING, some, self.paper), False)
        self.assertIs(core_holds(ENDING, (two, one), (self.paper[0], self.paper[1][::-1])), False)
        for value in odd_values():
            self.assertIs(core_holds(ENDING, value, self.paper), False)
            self.assertIs(core_holds(ENDING, (value,) + NEEDED[1:], self.paper), False)

    def test_papers_that_are_none(self):
        for value in odd_values() + [(), self.paper[:1], self.paper + ((),), list(self.paper), self.paper[::-1]]:
            self.assertIs(core_holds(ENDING, NEEDED, value), False)
            self.assertIs(core_holds(ENDING, NEEDED, (value, self.paper[1])), False)
            self.assertIs(core_holds(ENDING, NEEDED, (self.paper[0], value)), False)
            self.assertIs(core_holds(ENDING, NEEDED, (self.paper[0], (value, self.paper[1][1]))), False)
            self.assertIs(core_holds(ENDING, NEEDED, (self.paper[0], (self.paper[1][0], value))), False)

    def test_changed_at_one_place(self):
        for case in with_paper()[:8]:
            some, paper = core(case), core_paper(case)
            for value in changed(paper):
                self.assertIs(core_holds(case, some, value), reckon.core_paper(case, some, value))
            for value in changed(some):
                right = are_parts(case, value) and reckon.core_paper(case, value, paper)
                self.assertIs(core_holds(case, value, paper), right)

    def test_nothing_ends_without_parts(self):
        for value in (((), ()), ((((0, (0, 0)), 0),), ()), self.paper):
            self.assertIs(core_holds(ENDING, (), value), False)

    def test_endless_cases(self):
        self.assertIs(core_holds(ENDLESS, parts(ENDLESS), ((((0, (0,)), 1),), (round_of(ENDLESS.task),) * 2)), False)

    def test_the_case_of_some_is_too_large(self):
        some = parts(TOO_LARGE)[1:]
        told = heights(TOO_LARGE.task) if reckon.longest(TOO_LARGE.task) is not None else ()
        self.assertIs(core_holds(TOO_LARGE, some, (told, (((), ((0,),)),) * len(some))), False)

    def test_the_case_less_one_is_too_large(self):
        others = [reckon.less(LEFT_AT_LAST, part) for part in LEFT_AT_LAST]
        rounds = [((), ((2, 0, 1), (2, 1, 1), (2, 1, 1), (2, 1, 0)))]
        rounds += [round_of(with_parts(TOO_LARGE_AT_LAST, other).task) for other in others[1:]]
        left_out = (("never", (2, 2)), ("never", (2,)))
        for rules, row in zip(TOO_LARGE_AT_LAST.rules, zip(*rounds[0][1] * 3)):
            self.assertTrue(keeps(tuple(rule for rule in rules if rule not in left_out), 3, row))
        paper = (heights(with_parts(TOO_LARGE_AT_LAST, LEFT_AT_LAST).task), tuple(rounds))
        self.assertIs(core_holds(TOO_LARGE_AT_LAST, LEFT_AT_LAST, paper), False)
        # With a rule of person 2 that takes fewer states it would hold.
        smaller = Case(3, TOO_LARGE_AT_LAST.rules[:2] + ((("never", (2,)),),), TOO_LARGE_AT_LAST.wants)
        self.assertIs(core_holds(smaller, core(smaller), core_paper(smaller)), True)

    def test_by_name(self):
        self.assertIs(core_holds(case=ENDING, some=NEEDED, paper=self.paper), True)


if __name__ == "__main__":
    unittest.main()
