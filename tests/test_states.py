"""[10], [11]: states, reached or not, and pairs of states and integers."""

import unittest

from dutyweeks.states import are_marks, begin_of, is_state, state_behind, steps_at, week_of
from dutyweeks.tasks import Task
from tests import reckon
from tests.samples import Tuple, changed, odd_values, open_machine

TASK = Task((open_machine(2, 3), open_machine(2, 2)), (((1, (0, 1), 1, 1),), ()))


class StatesTest(unittest.TestCase):
    def test_the_beginning(self):
        self.assertEqual(begin_of(TASK), (0, (0, 0)))
        self.assertEqual(begin_of(Task((open_machine(1),), ((),))), (0, (0,)))

    def test_is_state(self):
        for state in reckon.all_states(TASK):
            self.assertIs(is_state(TASK, state), True)
        for state in ((2, (0, 0)), (-1, (0, 0)), (0, (3, 0)), (0, (0, 2)), (0, (-1, 0)), (0, (0,)), (0, (0, 0, 0)), (0, ())):
            self.assertIs(is_state(TASK, state), False)
        for value in list(changed((1, (2, 1)))) + odd_values() + [()]:
            right = reckon.is_plain_numbers(value) and value in reckon.all_states(TASK)
            self.assertIs(is_state(TASK, value), right)
            self.assertIs(is_state(TASK, (0, value)), False)
        self.assertIs(is_state(TASK, Tuple([1, Tuple([2, 1])])), True)

    def test_marks(self):
        marks = (((0, (0, 1)), 5), ((0, (2, 0)), -7), ((1, (0, 0)), 10 ** 30))
        for value in ((), marks, marks[:1], marks[1:], marks[::2]):
            self.assertIs(are_marks(TASK, value), True)
        for value in (marks[::-1], marks[:1] * 2, marks[:1] + (((0, (0, 1)), 6),), list(marks), marks[0], (((0, (0, 2)), 1),)):
            self.assertIs(are_marks(TASK, value), False)
        for value in list(changed(marks)) + odd_values():
            self.assertIs(are_marks(TASK, value), reckon.marks(TASK, value) is not None)

    def test_week(self):
        self.assertEqual(week_of(TASK), [[(0, 1), (1, 0)], [(0, 0), (0, 1), (1, 0), (1, 1)]])

    def test_steps(self):
        for task in reckon.random_tasks(5, 30):
            for state in reckon.all_states(task):
                self.assertEqual(steps_at(task, week_of(task), state), reckon.steps(task, state))

    def test_state_behind(self):
        self.assertEqual(state_behind(TASK, (1, (2, 1)), ()), (1, (2, 1)))
        self.assertEqual(state_behind(TASK, (1, (2, 1)), ((1, 1), (0, 1))), (1, (1, 1)))
        self.assertIsNone(state_behind(TASK, (1, (2, 1)), ((1, 1), (1, 1))))
        self.assertIsNone(state_behind(TASK, (0, (2, 1)), ((1, 1),)))


if __name__ == "__main__":
    unittest.main()
