"""[23], [24]: the desk, its deeds, and what it keeps for watched questions."""

import random
import unittest

from dutyweeks.claims import answer_of
from dutyweeks.desk import Desk, same_state
from dutyweeks.errors import (
    InvalidNumber, InvalidQuestion, InvalidRules, InvalidWants, NothingToUndo, TooLarge, Undefined)
from dutyweeks.papers import claim_holds, paper_of
from dutyweeks.tasks import Case
from tests import reckon, reckon_claims
from tests.reckon_desk import DEEDS, PlainDesk, error_of
from tests.samples import LONG_CASES, Tuple, is_plain, odd_values, own
from tests.test_claims import CLAIMS, NEITHER

MOST = ("most", 1, 2)
NEVER = ("never", (1,))
WANT = (1, (0, 1), 1, 1)
LEAST = (0, (0,), 0, 1)

# Two people, two letters, two weekdays.
CASE = Case(2, ((MOST,), ()), ((WANT,), ()))
DISLIKES = (((1, 9), (2, 8)), ((3, 7), (4, 6)))

ENDLESS = ("endless",)
MEAN = ("mean", DISLIKES)
COST = ("cost", DISLIKES, 3)
CELL = ("cell", 3, (), 0, 0)
QUESTIONS = (ENDLESS, MEAN, COST, CELL)

# What is no number of a person, a weekday, a rule or a want where there are two.
NO_NUMBERS = (-1, 2, 3, 10 ** 11, True, False, None, "0", (0,), [0])
NO_RULES = (("never", ()), ("never", (2,)), ("most", 1, 4), ("most", 1, 0), ("least", 1, 1), ("every", 2, 1), ("most", 1), ("never",), (),
            ("most", True, 2), ("most", 1, True), ["never", (1,)], ("never", [1]), (MOST,), "never", None, 0)
NO_WANTS = ((2, (0,), 0, 1), (1, (), 0, 1), (1, (0, 2), 0, 1), (1, (1, 0), 0, 1), (1, (0,), 0, 3), (1, (0,), -1, 1), (1, (0,), 0), (),
            (True, (0,), 0, 1), (1, (0,), 0, True), [1, (0,), 0, 1], (1, [0], 0, 1), (WANT,), None, 0)


def shown(desk):
    """All that a desk shows, except how much can be done again."""
    kept = [(desk.claim(question), desk.paper(question)) for question in desk.watched]
    return (desk.case.letters, desk.case.rules, desk.case.wants), desk.watched, desk.many, kept, desk.report()


def led(case, *deeds):
    """A desk behind some deeds, each a tuple of a name and what is told."""
    desk = Desk(case)
    for name, *told in deeds:
        getattr(desk, name)(*told)
    return desk


class DeskTest(unittest.TestCase):
    def check_raises(self, desk, error, value, name, *told):
        before = shown(desk)
        with self.assertRaises(error) as caught:
            getattr(desk, name)(*told)
        if error in (Undefined, NothingToUndo, TooLarge):
            self.assertEqual(list(vars(caught.exception).values()), [value])
        else:
            self.assertIs(caught.exception.value, value)
        self.assertEqual(shown(desk), before)

    def check_case(self, desk, rules, wants, many):
        self.assertEqual(desk.case, Case(2, rules, wants))
        self.assertTrue(is_plain(desk.case.rules) and is_plain(desk.case.wants))
        self.assertEqual(desk.many, many)


class BeginTest(DeskTest):
    def test_a_new_desk(self):
        desk = Desk(CASE)
        self.assertEqual(shown(desk), ((2, CASE.rules, CASE.wants), (), 0, [], ()))
        self.assertEqual(desk.case, CASE)
        self.assertEqual(desk.report(), ())
        self.assertIs(type(desk.many), int)

    def test_attributes_are_set_on_each_object(self):
        self.assertLessEqual({"case", "watched", "many"}, set(vars(Desk(CASE))))

    def test_equal_to_itself_alone(self):
        desk, other = Desk(CASE), Desk(CASE)
        self.assertTrue(desk == desk)
        self.assertFalse(desk == other)
        self.assertTrue(desk != other)
        for value in odd_values() + [()]:
            self.assertFalse(desk == value)

    def test_not_iterable(self):
        with self.assertRaises(TypeError):
            iter(Desk(CASE))

    def test_by_name(self):
        desk = Desk(case=CASE)
        desk.bind(person=1, rule=NEVER)
        desk.loose(person=1, k=0)
        desk.ask(weekday=1, want=WANT)
        desk.spare(weekday=1, k=0)
        desk.longer(row=())
        desk.shorter()
        desk.watch(question=ENDLESS)
        self.assertEqual(desk.claim(question=ENDLESS), ("endless",))
        self.assertEqual(desk.paper(question=ENDLESS), paper_of(CASE, ENDLESS))
        desk.leave(question=ENDLESS)
        self.assertEqual(desk.many, 8)
        self.assertIs(same_state(one=desk, other=desk), True)


class EditTest(DeskTest):
    def test_bind(self):
        desk = Desk(CASE)
        self.assertIsNone(desk.bind(0, NEVER))
        self.check_case(desk, ((MOST, NEVER), ()), CASE.wants, 1)
        desk.bind(1, MOST)
        desk.bind(0, MOST)
        self.check_case(desk, ((MOST, NEVER, MOST), (MOST,)), CASE.wants, 3)

    def test_bind_what_is_no_rule_or_one_too_many(self):
        desk = Desk(CASE)
        for value in NO_NUMBERS + tuple(odd_values()):
            self.check_raises(desk, InvalidNumber, value, "bind", value, NEVER)
            self.check_raises(desk, InvalidNumber, value, "bind", value, None)
        for value in NO_RULES + tuple(odd_values()):
            self.check_raises(desk, InvalidRules, value, "bind", 0, value)
        for rule in (MOST, NEVER, MOST):
            desk.bind(0, rule)
        self.check_raises(desk, InvalidRules, NEVER, "bind", 0, NEVER)
        self.check_raises(desk, InvalidNumber, 2, "bind", 2, NEVER)
        desk.bind(1, NEVER)
        self.check_case(desk, ((MOST, MOST, NEVER, MOST), (NEVER,)), CASE.wants, 4)

    def test_too_large_by_one_person(self):
        desk = Desk(Case(3, ((("every", 0, 4),), ()), ((),)))
        self.check_raises(desk, TooLarge, 16, "bind", 0, ("every", 2, 4))
        desk.bind(0, ("never", (1,)))
        desk.bind(0, ("every", 2, 4))
        self.check_raises(desk, TooLarge, 16, "loose", 0, 1)
        self.assertEqual(desk.many, 2)
        desk.loose(0, 0)
        self.assertEqual(desk.case.rules[0], (("never", (1,)), ("every", 2, 4)))

    def test_too_large_by_the_product(self):
        rules = (("every", 0, 4), ("most", 0, 1))
        desk = Desk(Case(2, (rules, rules, ()), ((),)))
        self.assertEqual([len(machine) for machine in desk.case.task.machines], [5, 5, 1])
        self.check_raises(desk, TooLarge, 75, "bind", 2, ("most", 1, 2))
        desk.bind(2, ("most", 1, 1))
        self.assertEqual(desk.many, 1)

    def test_too_large_for_the_first_person(self):
        one, other = (("every", 0, 4),), (("every", 0, 4), ("never", (1,)), ("every", 2, 4))
        desk = Desk(Case(3, (one, other), ((),)))
        self.check_raises(desk, TooLarge, 16, "bind", 0, ("every", 2, 4))
        self.check_raises(desk, TooLarge, 16, "loose", 1, 1)

    def test_loose(self):
        desk = Desk(Case(2, ((MOST, NEVER, ("every", 0, 3)), (NEVER,)), CASE.wants))
        self.assertIsNone(desk.loose(0, 1))
        self.check_case(desk, ((MOST, ("every", 0, 3)), (NEVER,)), CASE.wants, 1)
        desk.loose(1, 0)
        desk.loose(0, 1)
        self.check_case(desk, ((MOST,), ()), CASE.wants, 3)
        for person, k in ((0, 1), (1, 0), (0, -1), (1, -1), (0, True), (0, None), (0, "0"), (0, [0])):
            self.check_raises(desk, InvalidNumber, k, "loose", person, k)
        for value in NO_NUMBERS + tuple(odd_values()):
            self.check_raises(desk, InvalidNumber, value, "loose", value, 7)
            self.check_raises(desk, InvalidNumber, value, "loose", 0, value)
        desk.loose(0, 0)
        self.check_case(desk, ((), ()), CASE.wants, 4)

    def test_ask(self):
        desk = Desk(CASE)
        self.assertIsNone(desk.ask(1, LEAST))
        self.check_case(desk, CASE.rules, ((WANT,), (LEAST,)), 1)
        desk.ask(1, WANT)
        desk.ask(0, LEAST)
        desk.ask(1, WANT)
        self.check_case(desk, CASE.rules, ((WANT, LEAST), (LEAST, WANT, WANT)), 4)
        self.check_raises(desk, InvalidWants, WANT, "ask", 1, WANT)
        desk.ask(0, (1, (0,), 2, 1))
        self.assertEqual(desk.case.wants[0], (WANT, LEAST, (1, (0,), 2, 1)))

    def test_ask_what_is_no_want(self):
        desk = Desk(CASE)
        for value in NO_NUMBERS + tuple(odd_values()):
            self.check_raises(desk, InvalidNumber, value, "ask", value, WANT)
            self.check_raises(desk, InvalidNumber, value, "ask", value, None)
            self.check_raises(desk, InvalidNumber, value, "spare", value, 9)
            self.check_raises(desk, InvalidNumber, value, "spare", 0, value)
        for value in NO_WANTS + tuple(odd_values()):
            self.check_raises(desk, InvalidWants, value, "ask", 0, value)

    def test_spare(self):
        desk = Desk(Case(2, ((), ()), ((WANT, LEAST, WANT), (LEAST,))))
        self.assertIsNone(desk.spare(0, 1))
        self.check_case(desk, ((), ()), ((WANT, WANT), (LEAST,)), 1)
        desk.spare(1, 0)
        desk.spare(0, 1)
        self.check_case(desk, ((), ()), ((WANT,), ()), 3)
        for weekday, k in ((0, 1), (1, 0), (0, -1), (1, -1), (0, True), (0, None), (0, "0"), (0, [0])):
            self.check_raises(desk, InvalidNumber, k, "spare", weekday, k)

    def test_longer_and_shorter(self):
        desk = Desk(CASE)
        self.assertIsNone(desk.longer((LEAST, WANT)))
        self.check_case(desk, CASE.rules, CASE.wants + ((LEAST, WANT),), 1)
        self.assertIsNone(desk.longer(()))
        self.check_case(desk, CASE.rules, CASE.wants + ((LEAST, WANT), ()), 2)
        for value in ((), (WANT,)):
            self.check_raises(desk, InvalidWants, value, "longer", value)
        for k in range(3):
            self.assertIsNone(desk.shorter())
            self.check_case(desk, CASE.rules, (CASE.wants + ((LEAST, WANT),))[:3 - k], 3 + k)
        self.check_raises(desk, Undefined, "weekday", "shorter")
        self.assertEqual(desk.many, 5)

    def test_longer_by_what_is_no_weekday(self):
        desk = Desk(CASE)
        for value in [(value,) for value in NO_WANTS] + odd_values() + [WANT, [WANT], [], (WANT,) * 4, (WANT, None), CASE.wants]:
            self.check_raises(desk, InvalidWants, value, "longer", value)
        desk.longer((WANT,) * 3)
        self.assertEqual(desk.case.wants[2], (WANT,) * 3)

    def test_tuples_of_their_own(self):
        desk = Desk(CASE)
        for name, told in (("bind", (0, own(NEVER))), ("ask", (0, own(LEAST))), ("longer", (own((WANT,)),)), ("watch", (own(CELL),))):
            getattr(desk, name)(*told)
        self.check_case(desk, ((MOST, NEVER), ()), ((WANT, LEAST), (), (WANT,)), 4)
        self.assertEqual(desk.watched, (CELL,))
        self.assertTrue(is_plain(desk.watched))
        self.assertEqual(desk.claim(own(CELL)), answer_of(desk.case, CELL))
        desk.leave(own(CELL))
        self.assertEqual(desk.watched, ())

    def test_the_case_is_not_changed(self):
        case = Case(2, CASE.rules, CASE.wants)
        desk = Desk(case)
        first = desk.case
        desk.bind(0, NEVER)
        desk.longer(())
        for known in (case, first):
            self.assertEqual((known.rules, known.wants, known), (CASE.rules, CASE.wants, CASE))

    def test_two_desks_at_once(self):
        one, other = Desk(CASE), Desk(CASE)
        for question in QUESTIONS:
            one.watch(question)
        one.bind(0, NEVER)
        one.shorter()
        self.assertEqual(shown(other), shown(Desk(CASE)))
        other.bind(1, NEVER)
        other.watch(ENDLESS)
        self.assertEqual(one.case.rules, ((MOST, NEVER), ()))
        self.assertEqual(one.watched, QUESTIONS)
        self.assertEqual(other.watched, (ENDLESS,))


class WatchTest(DeskTest):
    def test_in_order(self):
        desk = Desk(CASE)
        for k, question in enumerate(QUESTIONS):
            self.assertIsNone(desk.watch(question))
            self.assertEqual(desk.watched, QUESTIONS[:k + 1])
            self.assertEqual(desk.many, k + 1)
            self.assertEqual(desk.report(), ("kept",) * k + ("new",))
            self.assertEqual(desk.claim(question), answer_of(CASE, question))
            self.assertEqual(desk.paper(question), paper_of(CASE, question))
        self.assertTrue(is_plain(desk.watched))
        self.assertIsNone(desk.leave(MEAN))
        self.assertEqual(desk.watched, (ENDLESS, COST, CELL))
        self.assertEqual(desk.report(), ("kept",) * 3)
        desk.watch(MEAN)
        self.assertEqual(desk.watched, (ENDLESS, COST, CELL, MEAN))
        self.assertEqual(desk.report(), ("kept",) * 3 + ("new",))
        self.assertEqual(desk.many, 6)

    def test_watched_already(self):
        desk = led(CASE, ("watch", ENDLESS), ("watch", CELL))
        self.assertIsNone(desk.watch(ENDLESS))
        self.assertEqual(desk.watched, (ENDLESS, CELL))
        self.assertEqual(desk.report(), ("kept", "kept"))
        self.assertEqual(desk.many, 3)
        desk.undo()
        self.assertEqual((desk.watched, desk.many), ((ENDLESS, CELL), 2))
        desk.undo()
        self.assertEqual((desk.watched, desk.many), ((ENDLESS,), 1))
        desk.redo()
        desk.redo()
        self.assertEqual((desk.watched, desk.many), ((ENDLESS, CELL), 3))

    def test_watching_again_ends_what_can_be_redone(self):
        desk = led(CASE, ("watch", ENDLESS), ("bind", 0, NEVER), ("undo",), ("watch", ENDLESS))
        self.check_raises(desk, NothingToUndo, "redo", "redo")
        self.assertEqual(desk.many, 2)

    def test_questions_that_are_none(self):
        desk = led(CASE, ("watch", CELL))
        for value in CLAIMS[1:] + NEITHER + odd_values():
            self.check_raises(desk, InvalidQuestion, value, "watch", value)
        for value in (("cell", 3, (), False, 0), ("cell", 3, (), 0, False), ["cell", 3, (), 0, 0], ("cell", 3, [], 0, 0)):
            self.check_raises(desk, InvalidQuestion, value, "watch", value)

    def test_questions_that_are_not_watched(self):
        desk = led(CASE, ("watch", CELL), ("watch", MEAN))
        wrong = [ENDLESS, COST, ("cell", 3, (), 0, 1), ("cell", 3, (), False, 0), ("cell", 3, (), 0, False), list(CELL),
                 ("cell", 3, [], 0, 0), CELL[:4], CELL + (0,), (CELL,), (), ("mean", (((True, 9), (2, 8)), ((3, 7), (4, 6)))),
                 ("mean", [list(row) for row in DISLIKES]), ("mean", DISLIKES[::-1])]
        for value in wrong + odd_values() + CLAIMS + NEITHER:
            for name in ("leave", "claim", "paper"):
                self.check_raises(desk, Undefined, "watched", name, value)
        self.check_raises(Desk(CASE), Undefined, "watched", "leave", ENDLESS)

    def test_eight_questions_and_sixty_deeds(self):
        questions = [("cell", n, (), 0, person) for n in (1, 2, 3, 4) for person in (0, 1)]
        desk = led(CASE, *[("watch", question) for question in questions])
        self.assertEqual(desk.watched, tuple(questions))
        for k in range(13):
            for name, *told in (("bind", 0, NEVER), ("undo",), ("redo",), ("loose", 0, 1)):
                getattr(desk, name)(*told)
        self.assertEqual(desk.many, 8 + 26)
        self.assertEqual(desk.watched, tuple(questions))
        for _ in range(34):
            desk.undo()
        self.assertEqual(shown(desk), shown(Desk(CASE)))
        for _ in range(34):
            desk.redo()
        self.assertEqual(desk.many, 34)
        self.assertEqual(desk.case, CASE)


class UndoTest(DeskTest):
    EACH = (("bind", 0, NEVER), ("loose", 0, 0), ("ask", 0, WANT), ("spare", 0, 0), ("longer", (WANT,)), ("shorter",), ("watch", COST),
            ("leave", CELL), ("watch", CELL))

    def test_each_deed_undone_and_redone(self):
        for name, *told in self.EACH:
            desk = led(CASE, ("watch", ENDLESS), ("watch", CELL))
            before = (desk.case, desk.watched, desk.many)
            getattr(desk, name)(*told)
            behind = (desk.case, desk.watched, desk.many)
            for _ in range(2):
                self.assertIsNone(desk.undo())
                self.assertEqual((desk.case, desk.watched, desk.many), before)
                self.assertIsNone(desk.redo())
                self.assertEqual((desk.case, desk.watched, desk.many), behind)

    def test_all_undone_and_redone(self):
        desk = led(CASE, ("watch", CELL))
        states = [(desk.case, desk.watched, desk.many)]
        for name, *told in self.EACH:
            getattr(desk, name)(*told)
            states.append((desk.case, desk.watched, desk.many))
        for state in states[-2::-1]:
            desk.undo()
            self.assertEqual((desk.case, desk.watched, desk.many), state)
        for state in states[1:]:
            desk.redo()
            self.assertEqual((desk.case, desk.watched, desk.many), state)
        self.check_raises(desk, NothingToUndo, "redo", "redo")

    def test_nothing_to_undo_or_redo(self):
        desk = Desk(CASE)
        self.check_raises(desk, NothingToUndo, "undo", "undo")
        self.check_raises(desk, NothingToUndo, "redo", "redo")
        desk.bind(0, NEVER)
        self.check_raises(desk, NothingToUndo, "redo", "redo")
        desk.undo()
        self.check_raises(desk, NothingToUndo, "undo", "undo")
        desk.redo()
        self.check_raises(desk, NothingToUndo, "redo", "redo")

    def test_a_new_deed_ends_what_can_be_redone(self):
        for name, *told in self.EACH:
            desk = led(CASE, ("watch", CELL), ("bind", 1, NEVER), ("undo",))
            getattr(desk, name)(*told)
            self.check_raises(desk, NothingToUndo, "redo", "redo")
            self.assertEqual(desk.many, 2)
            desk.undo()
            desk.redo()

    def test_what_raises_does_not_end_what_can_be_redone(self):
        desk = led(CASE, ("watch", CELL), ("bind", 1, NEVER), ("undo",))
        for name, *told in (("bind", 2, NEVER), ("loose", 1, 0), ("ask", 0, None), ("spare", 1, 0), ("longer", None), ("leave", ENDLESS),
                            ("watch", None)):
            with self.assertRaises(ValueError):
                getattr(desk, name)(*told)
        desk.redo()
        self.assertEqual(desk.case.rules, ((MOST,), (NEVER,)))

    def test_many_counts_what_can_be_undone(self):
        desk = Desk(CASE)
        many = []
        for name, *told in (("bind", 0, NEVER), ("bind", 1, NEVER), ("undo",), ("undo",), ("redo",), ("longer", ()), ("undo",), ("redo",)):
            getattr(desk, name)(*told)
            many.append(desk.many)
        self.assertEqual(many, [1, 2, 1, 0, 1, 2, 1, 2])

    def test_questions_come_back_at_their_place(self):
        desk = led(CASE, *[("watch", question) for question in QUESTIONS])
        desk.leave(MEAN)
        self.assertEqual(desk.report(), ("kept",) * 3)
        desk.undo()
        self.assertEqual(desk.watched, QUESTIONS)
        self.assertEqual(desk.report(), ("kept", "new", "kept", "kept"))
        desk.redo()
        self.assertEqual(desk.watched, (ENDLESS, COST, CELL))
        desk.leave(ENDLESS)
        desk.undo()
        self.assertEqual(desk.report(), ("new", "kept", "kept"))


class KeptTest(DeskTest):
    def test_words(self):
        desk = Desk(CASE)
        self.assertEqual(desk.report(), ())
        desk.watch(ENDLESS)
        self.assertEqual(desk.report(), ("new",))
        desk.ask(1, LEAST)
        self.assertEqual(desk.report(), ("kept",))
        desk.bind(0, NEVER)
        desk.bind(1, NEVER)
        self.assertEqual(desk.report(), ("changed",))
        self.assertEqual(desk.claim(ENDLESS), ("ends", 0))
        desk.undo()
        self.assertEqual(desk.report(), ("changed",))
        self.assertEqual(desk.claim(ENDLESS), ("endless",))
        desk.undo()
        self.assertEqual(desk.report(), ("kept",))
        desk.undo()
        desk.undo()
        self.assertEqual(desk.report(), ())

    def test_renewed(self):
        desk = led(CASE, ("watch", ENDLESS))
        ahead, again = desk.paper(ENDLESS)
        self.assertIn((0, 1), ahead + again)
        desk.ask(0, (1, (1,), 0, 0))
        self.assertEqual(desk.report(), ("renewed",))
        self.assertEqual(desk.claim(ENDLESS), ("endless",))
        self.assertEqual(desk.paper(ENDLESS), paper_of(desk.case, ENDLESS))
        self.assertNotEqual(desk.paper(ENDLESS), (ahead, again))

    def test_what_still_holds_is_kept_also_where_another_paper_would_do(self):
        case = Case(2, ((), ()), ((WANT,),))
        desk = led(case, ("watch", ENDLESS), ("ask", 0, (1, (1,), 0, 0)))
        kept = desk.paper(ENDLESS)
        desk.undo()
        self.assertEqual(desk.report(), ("kept",))
        self.assertEqual(desk.paper(ENDLESS), kept)
        self.assertNotEqual(desk.paper(ENDLESS), paper_of(desk.case, ENDLESS))
        desk.watch(ENDLESS)
        desk.watch(CELL)
        self.assertEqual(desk.report(), ("kept", "new"))
        self.assertEqual(desk.paper(ENDLESS), kept)
        desk.leave(ENDLESS)
        desk.watch(ENDLESS)
        self.assertEqual(desk.report(), ("kept", "new"))
        self.assertEqual(desk.paper(ENDLESS), paper_of(desk.case, ENDLESS))

    def test_forgotten_when_it_is_left(self):
        case = Case(2, ((), ()), ((WANT,),))
        desk = led(case, ("watch", ENDLESS), ("ask", 0, (1, (1,), 0, 0)))
        kept = desk.paper(ENDLESS)
        for name in ("undo", "undo", "redo"):
            getattr(desk, name)()
        self.assertEqual(desk.report(), ("new",))
        self.assertEqual(desk.paper(ENDLESS), paper_of(case, ENDLESS))
        self.assertNotEqual(desk.paper(ENDLESS), kept)

    def test_none_by_weekdays_more_or_less(self):
        for deed in (("longer", ()), ("shorter",)):
            desk = led(CASE, *[("watch", question) for question in QUESTIONS])
            name, *told = deed
            getattr(desk, name)(*told)
            self.assertEqual(desk.report()[1:3], ("none", "none"))
            for question in (MEAN, COST):
                self.assertIsNone(desk.claim(question))
                self.assertIsNone(desk.paper(question))
                self.check_raises(desk, InvalidQuestion, question, "watch", question)
            self.assertEqual(desk.watched, QUESTIONS)
            desk.bind(1, ("every", 0, 4))
            self.assertEqual(desk.report()[1:3], ("none", "none"))
            desk.undo()
            self.assertEqual(desk.report()[1:3], ("none", "none"))
            desk.undo()
            self.assertEqual(desk.report()[1:3], ("changed", "changed"))
            for question in QUESTIONS:
                self.assertEqual(desk.claim(question), answer_of(CASE, question))
            desk.redo()
            self.assertEqual(desk.report()[1:3], ("none", "none"))

    def test_what_was_kept_is_forgotten_as_none(self):
        case = Case(2, ((), ()), ((WANT,), ()))
        cost = ("cost", (((0, 0), (0, 0)), ((0, 0), (0, 0))), 1)
        desk = led(case, ("watch", cost), ("ask", 0, (1, (1,), 0, 0)))
        kept = desk.paper(cost)
        self.assertEqual(desk.report(), ("renewed",))
        for name, *told in (("spare", 0, 1), ("longer", ()), ("shorter",)):
            getattr(desk, name)(*told)
        self.assertEqual(desk.report(), ("changed",))
        self.assertEqual(desk.paper(cost), paper_of(case, cost))
        self.assertNotEqual(desk.paper(cost), kept)

    def test_new_as_none(self):
        desk = led(CASE, ("watch", MEAN), ("longer", ()), ("leave", MEAN), ("undo",))
        self.assertEqual(desk.report(), ("new",))
        self.assertEqual((desk.watched, desk.claim(MEAN), desk.paper(MEAN)), ((MEAN,), None, None))
        desk.bind(0, NEVER)
        self.assertEqual(desk.report(), ("none",))
        desk.leave(MEAN)
        self.assertEqual(desk.report(), ())
        self.assertEqual(desk.watched, ())

    def test_none_is_changed_when_it_comes_back(self):
        desk = led(CASE, ("watch", MEAN), ("shorter",), ("longer", ()))
        self.assertEqual(desk.report(), ("changed",))
        self.assertEqual(desk.claim(MEAN), answer_of(CASE, MEAN))
        self.assertEqual(desk.paper(MEAN), paper_of(CASE, MEAN))

    def test_cells_of_other_weekdays_stay(self):
        desk = led(CASE, ("watch", CELL), ("watch", ENDLESS), ("longer", ()), ("shorter",), ("shorter",))
        self.assertEqual(desk.claim(CELL), answer_of(desk.case, CELL))
        self.assertEqual(desk.claim(ENDLESS), answer_of(desk.case, ENDLESS))

    def test_long_cases(self):
        for many, case in LONG_CASES:
            desk = led(case, ("watch", ENDLESS), ("watch", ("cell", 10, (), 9, 0)))
            self.assertEqual(desk.claim(ENDLESS), ("ends", many))
            desk.loose(0, 0)
            desk.undo()
            self.assertEqual(desk.claim(ENDLESS), ("ends", many))
            self.assertIs(claim_holds(case, desk.claim(ENDLESS), desk.paper(ENDLESS)), True)


class SameStateTest(DeskTest):
    def check(self, right, one, other):
        self.assertIs(same_state(one, other), right)
        self.assertIs(same_state(other, one), right)

    def test_led_alike(self):
        deeds = [("watch", ENDLESS), ("bind", 0, NEVER), ("watch", CELL), ("longer", (WANT,)), ("undo",), ("leave", ENDLESS), ("undo",)]
        for k in range(len(deeds) + 1):
            for j in range(len(deeds) + 1):
                one, other = led(CASE, *deeds[:k]), led(CASE, *deeds[:j])
                # Whether "longer" or "leave" is the deed that can be redone does not count, only how many there are.
                self.check(k == j or {k, j} == {5, 7}, one, other)

    def test_other_ways_to_the_same(self):
        self.check(True, led(CASE, ("bind", 0, NEVER), ("undo",)), led(CASE, ("longer", ()), ("undo",)))
        self.check(True, led(CASE, ("bind", 0, NEVER), ("loose", 0, 1)), led(CASE, ("longer", ()), ("shorter",)))
        self.check(False, led(CASE, ("bind", 0, NEVER), ("loose", 0, 1)), Desk(CASE))
        self.check(False, led(CASE, ("bind", 0, NEVER), ("undo",)), Desk(CASE))
        self.check(False, led(CASE, ("bind", 0, NEVER), ("undo",)), led(CASE, ("bind", 0, NEVER), ("bind", 0, NEVER), ("undo",), ("undo",)))
        self.check(True, Desk(CASE), Desk(Case(2, CASE.rules, CASE.wants)))

    def test_reports_do_not_count(self):
        one = led(CASE, ("watch", ENDLESS), ("watch", ENDLESS))
        other = led(CASE, ("longer", ()), ("watch", ENDLESS), ("undo",), ("undo",), ("shorter",), ("longer", ()), ("watch", ENDLESS))
        self.assertNotEqual(one.report(), other.report())
        other = led(CASE, ("bind", 0, ("every", 0, 4)), ("watch", ENDLESS))
        self.check(False, one, other)
        one = led(CASE, ("bind", 1, NEVER), ("watch", ENDLESS), ("undo",), ("undo",), ("watch", CELL))
        other = led(CASE, ("watch", CELL))
        self.check(True, one, other)
        one = led(CASE, ("watch", CELL), ("watch", CELL), ("undo",))
        other = led(CASE, ("watch", CELL), ("bind", 0, ("every", 0, 4)), ("undo",))
        self.assertEqual((one.report(), other.report()), (("kept",), ("kept",)))
        self.check(True, one, other)

    def test_other_cases_questions_and_orders(self):
        one = led(CASE, ("watch", ENDLESS), ("watch", CELL))
        self.check(False, one, led(CASE, ("watch", CELL), ("watch", ENDLESS)))
        self.check(False, one, led(CASE, ("watch", ENDLESS), ("watch", MEAN)))
        self.check(False, one, led(Case(2, ((MOST,), (MOST,)), CASE.wants), ("watch", ENDLESS), ("watch", CELL)))
        self.check(True, one, led(CASE, ("watch", ENDLESS), ("watch", CELL)))

    def test_other_questions_that_are_none(self):
        one = led(CASE, ("watch", MEAN), ("shorter",))
        self.check(False, one, led(CASE, ("watch", COST), ("shorter",)))
        self.check(True, one, led(CASE, ("watch", MEAN), ("shorter",)))

    def test_other_papers(self):
        case = Case(2, ((), ()), ((WANT,),))
        more = (1, (1,), 0, 0)
        one = led(case, ("watch", ENDLESS), ("ask", 0, more), ("spare", 0, 1))
        other = led(case, ("watch", ENDLESS), ("longer", ()), ("shorter",))
        self.assertEqual((one.case, one.watched, one.many, one.claim(ENDLESS)), (other.case, other.watched, other.many, other.claim(ENDLESS)))
        self.assertNotEqual(one.paper(ENDLESS), other.paper(ENDLESS))
        self.check(False, one, other)

    def test_by_oneself(self):
        desk = led(CASE, ("watch", ENDLESS), ("undo",))
        self.check(True, desk, desk)


class LedTest(DeskTest):
    """Desks that are led through many deeds, right and wrong ones, next to plain ones."""

    def told(self, source, plain, name):
        """What a deed is told: mostly what it lets."""
        case = plain.case
        people, weekdays = len(case.rules), len(case.wants)
        person, weekday = source.randrange(people), source.randrange(weekdays)
        if source.random() < 0.04:
            person, weekday = source.choice((people, -1, None, True)), source.choice((weekdays, -1, None, True))
        if name == "bind":
            rule = reckon.random_rule(source, case.letters)
            return person, source.choice((rule,) * 18 + (("every", 0, 4), ("never", (case.letters,))))
        if name == "loose":
            return person, source.randrange(3)
        if name == "ask":
            return weekday, self.want(source, people, case.letters)
        if name == "spare":
            return weekday, source.randrange(3)
        if name == "longer":
            return (tuple(self.want(source, people, case.letters) for _ in range(source.choice((0, 1, 2)))),)
        if name == "leave":
            return (source.choice(plain.watched + (("endless",), None)),)
        if name == "watch":
            known = source.random() < 0.2 and plain.watched
            return (source.choice(plain.watched) if known else reckon_claims.random_question(source, case, 2),)
        return ()

    def want(self, source, people, letters):
        group = tuple(sorted(source.sample(range(people), source.randint(1, people))))
        low = source.choice((0, 0, 1))
        return (source.randrange(letters), group, low, source.choice((low, people)))

    def test_as_plain_desks(self):
        words, errors = set(), set()
        for seed in range(30):
            source = random.Random(seed)
            case = source.choice(reckon.random_cases(seed, 3) + [CASE])
            desk, plain = Desk(case), PlainDesk(case)
            for _ in range(45):
                name = source.choice(DEEDS + ("bind", "ask", "watch", "watch", "undo", "undo", "redo", "redo", "loose", "spare"))
                if name == "watch" and len(plain.watched) == 8:
                    continue
                told = self.told(source, plain, name)
                before = shown(desk)
                found = error_of(getattr(desk, name), *told)
                self.assertEqual(found, error_of(plain.do, name, *told), (seed, name, told))
                if found is not None:
                    errors.add((name, found[0]))
                    self.assertEqual(shown(desk), before)
                self.check_like(desk, plain)
                words |= set(desk.report())
        self.assertEqual(words, {"new", "none", "kept", "renewed", "changed"})
        self.assertLessEqual({
            ("bind", InvalidNumber), ("bind", InvalidRules), ("bind", TooLarge), ("loose", InvalidNumber), ("ask", InvalidNumber),
            ("ask", InvalidWants), ("spare", InvalidNumber), ("longer", InvalidWants), ("shorter", Undefined), ("watch", InvalidQuestion),
            ("leave", Undefined), ("undo", NothingToUndo), ("redo", NothingToUndo)}, errors)

    def check_like(self, desk, plain):
        self.assertEqual(desk.case, plain.case)
        self.assertEqual(desk.watched, plain.watched)
        self.assertEqual(desk.many, len(plain.done))
        self.assertEqual(desk.report(), plain.words)
        for question in desk.watched:
            claim, paper = desk.claim(question), desk.paper(question)
            self.assertEqual((claim, paper), plain.kept[question])
            self.assertIs(claim_holds(desk.case, claim, paper), reckon_claims.is_question(desk.case, question))
            if claim is not None:
                self.assertEqual(claim, answer_of(desk.case, question))
                self.assertTrue(is_plain(claim) and is_plain(paper))

    def test_led_twice_alike(self):
        for seed in range(40, 46):
            desks = []
            for _ in range(2):
                source = random.Random(seed)
                desk, plain = Desk(CASE), PlainDesk(CASE)
                for _ in range(25):
                    name = source.choice(DEEDS + ("undo", "redo"))
                    told = self.told(source, plain, name)
                    if error_of(plain.do, name, *told) is None:
                        getattr(desk, name)(*told)
                desks.append(desk)
            self.assertIs(same_state(*desks), True)
            self.assertEqual(shown(desks[0]), shown(desks[1]))


if __name__ == "__main__":
    unittest.main()
