"""[10]: rotas, the states behind them, how they go on, and the states that are reached."""

import random
import unittest

from dutyweeks.errors import InvalidRota
from dutyweeks.machines import Machine
from dutyweeks.rotas import is_rota, moves, reached, state_after
from dutyweeks.tasks import Task
from tests import reckon
from tests.samples import Tuple, changed, is_plain, odd_values, open_machine

# The first may never have letter 1 on two days in a row, the second is free on at most two days in a row.
TASK = Task(
    (Machine(2, ((0, 1), (0, -1))), Machine(2, ((1, 0), (2, 0), (-1, 0)))),
    (((1, (0, 1), 1, 1),), (), ((0, (0,), 1, 1),)))

# All on letter 1 on the first weekday, which a machine bars.
NO_DAY = Task((Machine(2, ((0, -1),)),), (((1, (0,), 1, 1),),))


def all_kinds_of_tasks():
    return [TASK, NO_DAY] + reckon.random_tasks(10, 60)


class IsRotaTest(unittest.TestCase):
    def test_the_empty_rota(self):
        for task in all_kinds_of_tasks():
            self.assertIs(is_rota(task, ()), True)

    def test_all_rows_of_deals(self):
        for task in all_kinds_of_tasks():
            for days in range(1, 4):
                rotas = reckon.rotas(task, days)
                for ahead in reckon.rotas(task, days - 1):
                    for deal in reckon.deals_of(task):
                        self.assertIs(is_rota(task, ahead + (deal,)), ahead + (deal,) in rotas)

    def test_wants_and_machines(self):
        self.assertIs(is_rota(TASK, ((1, 0), (0, 0), (0, 1), (0, 1))), True)
        for value in (((1, 1),), ((0, 0),), ((1, 0), (1, 0)), ((0, 1), (0, 1), (1, 1)), ((1, 0), (0, 0), (0, 0))):
            self.assertIs(is_rota(TASK, value), False)

    def test_a_day_broken_stays_broken(self):
        self.assertIs(is_rota(TASK, ((1, 1), (0, 0), (0, 1))), False)
        self.assertIs(is_rota(TASK, ((1, 0), (1, 1), (0, 1))), False)

    def test_weekdays_go_round(self):
        week = ((0, 1), (1, 1), (0, 0))
        self.assertIs(is_rota(TASK, week * 5), True)
        self.assertIs(is_rota(TASK, week * 5 + ((0, 0),)), False)
        self.assertIs(is_rota(TASK, week[1:] * 5), False)

    def test_other_numbers_of_people_and_letters(self):
        for deal in ((), (1,), (0, 1, 0), (0, 2), (0, -1), (2, 1), (0, True), (False, 1), (0, None), [0, 1], "01", ((0, 1),)):
            self.assertIs(is_rota(TASK, (deal,)), False)
            self.assertIs(is_rota(TASK, ((0, 1), deal)), False)

    def test_any_value(self):
        for value in odd_values():
            self.assertIs(is_rota(TASK, value), False)
            self.assertIs(is_rota(TASK, ((0, 1), value)), False)
        self.assertIs(is_rota(TASK, [(0, 1)]), False)
        self.assertIs(is_rota(TASK, []), False)

    def test_changed_at_one_place(self):
        for value in changed(((0, 1), (1, 1), (0, 0), (0, 1))):
            self.assertIs(is_rota(TASK, value), reckon.rota(TASK, value))

    def test_thousands_of_days(self):
        week = ((0, 1), (1, 1), (0, 0))
        self.assertIs(is_rota(TASK, week * 3000), True)
        self.assertIs(is_rota(TASK, week * 2999 + ((0, 1), (1, 1), (1, 0))), False)
        self.assertIs(is_rota(TASK, ((0, 1),) + ((1, 1),) * 9000), False)

    def test_tuples_of_their_own(self):
        self.assertIs(is_rota(TASK, Tuple([Tuple([0, 1]), (1, 1)])), True)

    def test_by_name(self):
        self.assertIs(is_rota(task=TASK, value=((1, 0),)), True)


class StateAfterTest(unittest.TestCase):
    def test_at_the_beginning(self):
        self.assertEqual(state_after(TASK, ()), (0, (0, 0)))
        self.assertEqual(state_after(Task((open_machine(1),), ((),)), ()), (0, (0,)))
        self.assertEqual(state_after(NO_DAY, ()), (0, (0,)))

    def test_behind_rotas(self):
        self.assertEqual(state_after(TASK, ((1, 0),)), (1, (1, 1)))
        self.assertEqual(state_after(TASK, ((1, 0), (0, 0))), (2, (0, 2)))
        self.assertEqual(state_after(TASK, ((1, 0), (0, 0), (0, 1))), (0, (0, 0)))
        for task in all_kinds_of_tasks():
            for days in range(4):
                for value in reckon.rotas(task, days)[:50]:
                    self.assertEqual(state_after(task, value), reckon.state_behind(task, value))

    def test_thousands_of_days(self):
        self.assertEqual(state_after(TASK, ((0, 1), (1, 1), (0, 0)) * 3000 + ((0, 1), (1, 0))), (2, (1, 1)))

    def test_no_rota(self):
        values = [((1, 1),), ((0, 1), (1, 1), (1, 0)), ((0, True),), ((0, 2),), ((0,),), ((0, 1, 1),), [(0, 1)], [], ([0, 1],)]
        for value in values + odd_values():
            with self.assertRaises(InvalidRota) as caught:
                state_after(TASK, value)
            self.assertIs(caught.exception.value, value)

    def test_plain(self):
        self.assertTrue(is_plain(state_after(TASK, Tuple([Tuple([0, 1])]))))

    def test_by_name(self):
        self.assertEqual(state_after(task=TASK, rota=((0, 1),)), (1, (0, 0)))


class MovesTest(unittest.TestCase):
    def test_ascending(self):
        self.assertEqual(moves(TASK, ()), (((0, 1), (1, (0, 0))), ((1, 0), (1, (1, 1)))))
        self.assertEqual(moves(TASK, ((1, 0), (0, 0))), (((0, 1), (0, (0, 0))),))

    def test_all_that_can_be_dealt(self):
        for task in all_kinds_of_tasks():
            for days in range(3):
                for value in reckon.rotas(task, days)[:20]:
                    longer = [value + (deal,) for deal in reckon.deals_of(task) if reckon.rota(task, value + (deal,))]
                    pairs = tuple((rota[-1], reckon.state_behind(task, rota)) for rota in longer)
                    self.assertEqual(moves(task, value), pairs)
                    self.assertEqual(list(pairs), sorted(pairs))
                    self.assertTrue(is_plain(moves(task, value)))

    def test_none_at_the_end(self):
        self.assertEqual(moves(NO_DAY, ()), ())

    def test_all_deals_of_three(self):
        task = Task((open_machine(3, 4),) * 3, ((),) * 4)
        self.assertEqual(len(moves(task, ())), 27)
        self.assertEqual(moves(task, ((2, 0, 1),) * 5)[-1], ((2, 2, 2), (2, (2, 2, 2))))

    def test_no_rota(self):
        for value in [((1, 1),), ((0, True),), [], ([0, 1],)] + odd_values():
            with self.assertRaises(InvalidRota) as caught:
                moves(TASK, value)
            self.assertIs(caught.exception.value, value)

    def test_by_name(self):
        self.assertEqual(moves(task=TASK, rota=()), moves(TASK, ()))


class ReachedTest(unittest.TestCase):
    def test_just_the_states_behind_rotas(self):
        for task in all_kinds_of_tasks():
            self.assertEqual(reached(task), tuple(reckon.reached(task)))
            self.assertTrue(is_plain(reached(task)))
        self.assertEqual(reached(NO_DAY), ((0, (0,)),))

    def test_against_rotas(self):
        for task in all_kinds_of_tasks():
            behind = {state_after(task, value) for days in range(4) for value in reckon.rotas(task, days)[:300]}
            self.assertLessEqual(behind, set(reached(task)))

    def test_ascending(self):
        states = reached(TASK)
        self.assertEqual(list(states), sorted(states))
        self.assertEqual(states[:3], ((0, (0, 0)), (0, (0, 1)), (0, (0, 2))))

    def test_states_that_are_not_reached(self):
        task = Task((Machine(2, ((1, -1), (1, 0), (2, 2))),), ((), ()))
        self.assertEqual(reached(task), ((0, (0,)), (0, (1,)), (1, (0,)), (1, (1,))))

    def test_sixty_four_states_and_four_weekdays(self):
        source = random.Random(4)
        for sizes in ((4, 4, 4), (8, 8), (12, 5)):
            machines = tuple(reckon.random_machine(source, 3, size, 15) for size in sizes)
            for weekdays in (1, 4):
                task = Task(machines, (((0, (0, 1), 0, 1),),) + ((),) * (weekdays - 1))
                self.assertEqual(reached(task), tuple(reckon.reached(task)))
        turning = Machine(3, tuple(tuple((state + letter) % 4 for letter in range(3)) for state in range(4)))
        task = Task((turning,) * 3, ((),) * 4)
        self.assertEqual(reached(task), tuple(reckon.all_states(task)))

    def test_by_name(self):
        self.assertEqual(reached(task=TASK), reached(TASK))


if __name__ == "__main__":
    unittest.main()
