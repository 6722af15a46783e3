"""[11]: rounds, the greatest number of days, and heights."""

import unittest

from dutyweeks.errors import Undefined
from dutyweeks.machines import Machine
from dutyweeks.rotas import is_rota, reached
from dutyweeks.rounds import heights, heights_hold, longest, round_holds, round_of
from dutyweeks.tasks import Task
from tests import reckon
from tests.samples import Tuple, changed, is_plain, odd_values, open_machine
from tests.test_rotas import NO_DAY, TASK

# Two days of letter 1 at most, and each day wants it: it ends behind two days. State 3 is not reached.
TWO_DAYS = Task((Machine(2, ((0, 1), (0, 2), (0, -1), (-1, 3))),), (((1, (0,), 1, 1),),))


def ending():
    return [NO_DAY, TWO_DAYS] + [task for task in reckon.random_tasks(11, 150) if reckon.longest(task) is not None]


def endless():
    return [TASK] + [task for task in reckon.random_tasks(12, 120) if reckon.longest(task) is None]


class RoundOfTest(unittest.TestCase):
    def test_a_round_if_rotas_do_not_end(self):
        self.assertGreater(len(endless()), 20)
        for task in endless():
            value = round_of(task)
            self.assertTrue(reckon.round_(task, value))
            self.assertIs(round_holds(task, value), True)
            self.assertTrue(is_plain(value))
            for many in (2, 3):
                self.assertTrue(reckon.rota(task, value[0] + value[1] * many))

    def test_the_same_round_again(self):
        for task in endless():
            self.assertEqual(round_of(Task(task.machines, task.wants)), round_of(task))

    def test_none_if_all_rotas_end(self):
        self.assertGreater(len(ending()), 20)
        for task in ending():
            with self.assertRaises(Undefined) as caught:
                round_of(task)
            self.assertEqual(caught.exception.what, "ends")

    def test_ends_that_are_passed_by(self):
        # Letter 0 on the first day leads where all rotas end; from letter 2 on there is a round behind three days.
        machine = Machine(3, ((1, -1, 3), (2, 2, -1), (-1, -1, -1), (2, 4, -1), (5, -1, -1), (1, -1, 5)))
        self.assertEqual(round_of(Task((machine,), ((),))), (((2,), (1,), (0,)), ((2,),)))

    def test_by_name(self):
        self.assertEqual(round_of(task=TASK), round_of(TASK))


class RoundHoldsTest(unittest.TestCase):
    WEEK = ((0, 1), (1, 0), (0, 1))

    def test_rounds(self):
        week = self.WEEK
        for value in (((), week), (week, week), ((), week * 2), (week[:1], week[1:] + week[:1]), (week * 1000, week * 2000)):
            self.assertIs(round_holds(TASK, value), True)

    def test_again_is_not_empty(self):
        for ahead in ((), self.WEEK, self.WEEK[:1]):
            self.assertIs(round_holds(TASK, (ahead, ())), False)

    def test_states_that_are_not_equal(self):
        for value in (((), self.WEEK[:1]), ((), self.WEEK[:2]), (self.WEEK[:1], self.WEEK[1:]), ((), self.WEEK + self.WEEK[:2])):
            self.assertTrue(is_rota(TASK, value[0] + value[1]))
            self.assertIs(round_holds(TASK, value), False)

    def test_the_same_machines_on_another_weekday(self):
        task = Task((open_machine(2),), ((), ()))
        self.assertIs(round_holds(task, ((), ((0,),))), False)
        self.assertIs(round_holds(task, ((), ((0,), (1,)))), True)
        self.assertIs(round_holds(task, (((1,),), ((0,),) * 3)), False)
        self.assertIs(round_holds(task, (((1,),), ((0,),) * 4)), True)

    def test_the_same_weekday_with_other_machines(self):
        task = Task((open_machine(2, 3),), ((),))
        for many in range(1, 7):
            self.assertIs(round_holds(task, (((0,),), ((1,),) * many)), many % 3 == 0)

    def test_no_rota(self):
        self.assertIs(round_holds(TASK, (((1, 1),), self.WEEK)), False)
        self.assertIs(round_holds(TASK, ((), ((1, 0), (1, 1), (0, 0)))), False)
        self.assertIs(round_holds(TASK, (self.WEEK[:2], ((1, 1), (1, 0), (0, 1)))), False)

    def test_changed_at_one_place(self):
        for task in endless()[:25]:
            ahead, again = round_of(task)
            for value in [(ahead, again), (ahead, again * 2), (ahead + again, again)]:
                self.assertIs(round_holds(task, value), True)
            for value in changed((ahead, again)):
                self.assertIs(round_holds(task, value), reckon.round_(task, value))

    def test_any_value(self):
        for value in odd_values() + [(), ((), ()), (self.WEEK, self.WEEK, self.WEEK), [(), self.WEEK], (self.WEEK,)]:
            self.assertIs(round_holds(TASK, value), False)
        for value in odd_values() + [[], [()], list(self.WEEK)]:
            self.assertIs(round_holds(TASK, (value, self.WEEK)), False)
            self.assertIs(round_holds(TASK, ((), value)), False)
            self.assertIs(round_holds(TASK, ((), self.WEEK[:2] + (value,))), False)

    def test_none_where_all_rotas_end(self):
        self.assertIs(round_holds(TWO_DAYS, ((), ((1,),))), False)
        self.assertIs(round_holds(NO_DAY, ((), ((0,),))), False)
        self.assertIs(round_holds(NO_DAY, ((), ())), False)

    def test_tuples_of_their_own(self):
        self.assertIs(round_holds(TASK, Tuple([Tuple(), Tuple(self.WEEK)])), True)
        self.assertIs(round_holds(TASK, Tuple([Tuple(), Tuple()])), False)

    def test_by_name(self):
        self.assertIs(round_holds(task=TASK, value=((), self.WEEK)), True)


class LongestTest(unittest.TestCase):
    def test_number_of_days(self):
        self.assertEqual(longest(NO_DAY), 0)
        self.assertEqual(longest(TWO_DAYS), 2)
        self.assertIsNone(longest(TASK))
        for task in reckon.random_tasks(13, 200):
            self.assertEqual(longest(task), reckon.longest(task))
        self.assertGreater(max(longest(task) for task in ending()), 3)

    def test_a_rota_of_so_many_days_and_none_of_more(self):
        for task in ending()[:30]:
            self.assertNotEqual(reckon.rotas(task, longest(task)), [])
            self.assertEqual(reckon.rotas(task, longest(task) + 1), [])

    def test_by_name(self):
        self.assertEqual(longest(task=TWO_DAYS), 2)


class HeightsTest(unittest.TestCase):
    def test_heights(self):
        self.assertEqual(heights(NO_DAY), (((0, (0,)), 0),))
        self.assertEqual(heights(TWO_DAYS), (((0, (0,)), 2), ((0, (1,)), 1), ((0, (2,)), 0)))

    def test_just_the_reached_states_with_their_days(self):
        for task in ending():
            value = heights(task)
            self.assertEqual(tuple(state for state, _ in value), reached(task))
            self.assertEqual(dict(value)[reckon.start(task)], longest(task))
            for state, number in value:
                self.assertEqual(number, max([dict(value)[later] + 1 for _, later in reckon.steps(task, state)], default=0))
            self.assertTrue(is_plain(value))
            self.assertIs(heights_hold(task, value), True)

    def test_none_if_rotas_do_not_end(self):
        for task in endless():
            with self.assertRaises(Undefined) as caught:
                heights(task)
            self.assertEqual(caught.exception.what, "endless")

    def test_by_name(self):
        self.assertEqual(heights(task=TWO_DAYS), heights(TWO_DAYS))


class HeightsHoldTest(unittest.TestCase):
    def heights_of(self, *numbers):
        """Pairs for the states of TWO_DAYS from 0 on, without those for None."""
        return tuple(((0, (state,)), number) for state, number in enumerate(numbers) if number is not None)

    def test_other_numbers(self):
        for numbers in ((2, 1, 0), (9, 1, 0), (10 ** 12 - 1, 7, 6), (3, 2, 1)):
            self.assertIs(heights_hold(TWO_DAYS, self.heights_of(*numbers)), True)
        for numbers in ((1, 1, 0), (2, 1, 1), (0, 1, 2), (0, 0, 0), (2, 2, 0), (3, 1, 2)):
            self.assertIs(heights_hold(TWO_DAYS, self.heights_of(*numbers)), False)

    def test_numbers_below_zero(self):
        for numbers in ((2, 1, -1), (1, 0, -1), (-1, -2, -3)):
            self.assertIs(heights_hold(TWO_DAYS, self.heights_of(*numbers)), False)
        self.assertIs(heights_hold(NO_DAY, (((0, (0,)), -1),)), False)

    def test_states_that_are_left_out(self):
        for numbers in ((2, 1), (2, None, 0), (2,), (None, 1, 0), ()):
            self.assertIs(heights_hold(TWO_DAYS, self.heights_of(*numbers)), False)

    def test_states_that_are_not_reached(self):
        # State 3 leads to itself by letter 1, so it cannot have a number; without that letter it can.
        self.assertIs(heights_hold(TWO_DAYS, self.heights_of(2, 1, 0, 5)), False)
        task = Task((Machine(2, ((0, 1), (0, 2), (0, -1), (-1, 0), (3, -1))),), TWO_DAYS.wants)
        for numbers in ((2, 1, 0), (2, 1, 0, 3), (2, 1, 0, 3, 0), (2, 1, 0, None, 0), (2, 1, 0, 9, 10 ** 9)):
            self.assertIs(heights_hold(task, self.heights_of(*numbers)), True)
        self.assertIs(heights_hold(task, self.heights_of(2, 1, 0, 2)), False)

    def test_the_beginning_alone_does_if_no_deal_can_be_dealt(self):
        self.assertIs(heights_hold(NO_DAY, (((0, (0,)), 0),)), True)
        self.assertIs(heights_hold(NO_DAY, (((0, (0,)), 77),)), True)

    def test_without_the_state_at_the_beginning(self):
        self.assertIs(heights_hold(NO_DAY, ()), False)
        task = Task((Machine(1, ((1,), (-1,))),), ((),))
        self.assertIs(heights_hold(task, (((0, (0,)), 1), ((0, (1,)), 0))), True)
        self.assertIs(heights_hold(task, (((0, (1,)), 0),)), False)

    def test_not_ascending_or_a_state_twice(self):
        told = self.heights_of(2, 1, 0)
        for value in (told[::-1], told[:1] + told, told + told[-1:], told[:2] + (((0, (1,)), 2),) + told[2:]):
            self.assertIs(heights_hold(TWO_DAYS, value), False)
        self.assertIs(heights_hold(TWO_DAYS, told[:1] + (((0, (0,)), 3),) + told[1:]), False)

    def test_states_of_other_tasks(self):
        told = self.heights_of(2, 1, 0)
        for state in ((0, (4,)), (1, (0,)), (0, (0, 0)), (0, ()), (0, (-1,))):
            self.assertIs(heights_hold(TWO_DAYS, told + ((state, 0),)), False)

    def test_changed_at_one_place(self):
        for task in ending()[:25]:
            for value in changed(heights(task)):
                self.assertIs(heights_hold(task, value), reckon.heights(task, value))

    def test_none_where_rotas_do_not_end(self):
        for task in endless()[:40]:
            states = reckon.all_states(task)
            self.assertIs(heights_hold(task, tuple((state, k) for k, state in enumerate(states))), False)
            self.assertIs(heights_hold(task, tuple((state, len(states) - k) for k, state in enumerate(states))), False)

    def test_any_value(self):
        told = self.heights_of(2, 1, 0)
        for value in odd_values() + [list(told), (list(told),), (told,), told[0]]:
            self.assertIs(heights_hold(TWO_DAYS, value), False)
            self.assertIs(heights_hold(TWO_DAYS, told + (value,)), False)
            self.assertIs(heights_hold(TWO_DAYS, ((value, 3),)), False)
        for value in [None, True, "2", (2,), [2]]:
            self.assertIs(heights_hold(NO_DAY, (((0, (0,)), value),)), False)

    def test_tuples_of_their_own(self):
        self.assertIs(heights_hold(TWO_DAYS, Tuple([Tuple([Tuple([0, Tuple([k])]), 2 - k]) for k in range(3)])), True)

    def test_by_name(self):
        self.assertIs(heights_hold(task=TWO_DAYS, value=self.heights_of(2, 1, 0)), True)


if __name__ == "__main__":
    unittest.main()
