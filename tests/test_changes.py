"""[16], [17]: what is fixed, what it forces, the nearest rota, and walls."""

import random
import unittest

from dutyweeks.changes import forced, is_fixed, nearest, walls, walls_hold
from dutyweeks.errors import InvalidFixed, InvalidNumber, InvalidRota, Undefined
from dutyweeks.machines import Machine
from dutyweeks.tasks import Task
from tests import reckon
from tests.samples import Tuple, changed, is_plain, odd_values, open_machine
from tests.test_rotas import NO_DAY, TASK
from tests.test_rounds import TWO_DAYS

NO_NUMBERS = (-1, 11, 12, 10 ** 12 - 1, True, False, None, "3", (3,), [3])

FREE = Task((open_machine(2), open_machine(2)), ((),))
THREE_LETTERS = Task((open_machine(3),), ((), ()))

# What is not fixed for three days of two people and two letters.
NOT_FIXED = (
    ((1, 0, 1), (0, 0, 1)), ((0, 1, 0), (0, 0, 1)), ((0, 0, 0), (0, 0, 0)), ((0, 0, 0), (0, 0, 1)),
    ((0, 0, 0), (0, 1, 1), (0, 1, 0)), ((3, 0, 0),), ((2, 0, 0), (3, 0, 0)), ((-1, 0, 0),), ((0, 2, 0),), ((0, -1, 0),),
    ((0, 0, 2),), ((0, 0, -1),), ((0, 0),), ((0, 0, 0, 0),), ((),), (0, 0, 0), ((True, 0, 0),), ((0, True, 0),),
    ((0, 0, True),), ((0, 0, False),), ((False, 0, 0),), ((0, False, 0),), ((None, 0, 0),), ((0, "0", 0),), ((0, 0, (0,)),),
    ([0, 0, 0],), [(0, 0, 0)], [], ((0, 0, 0), None), "", None, 0)

IS_FIXED = (
    (), ((0, 0, 0),), ((2, 1, 1),), ((0, 0, 1), (0, 1, 0)), ((0, 1, 1), (1, 0, 0)), ((0, 0, 1), (2, 0, 1)),
    ((0, 0, 0), (0, 1, 0), (1, 0, 0), (1, 1, 0), (2, 0, 0), (2, 1, 0)))


def tasks_with_fixed(seed, many=80):
    """Tasks, numbers of days and what is fixed, with and without rotas that have it, but not very many rotas."""
    source = random.Random(seed)
    found = []
    for task in [TASK, TWO_DAYS, FREE, THREE_LETTERS] + reckon.random_tasks(seed, many):
        n = source.randint(1, 4)
        while len(reckon.deals_of(task)) ** n > 800:
            n -= 1
        found += [(task, n, reckon.random_fixed(source, task, n, most)) for most in (0, 2, 5)]
    return found


class IsFixedTest(unittest.TestCase):
    def test_ascending_triples(self):
        for value in IS_FIXED:
            self.assertIs(is_fixed(FREE, 3, value), True)
        for value in NOT_FIXED:
            self.assertIs(is_fixed(FREE, 3, value), False)

    def test_days_below_n(self):
        for n in range(11):
            for day in range(12):
                self.assertIs(is_fixed(FREE, n, ((day, 0, 0),)), day < n)
            self.assertIs(is_fixed(FREE, n, ()), True)

    def test_people_and_letters_of_the_task(self):
        for task in (FREE, THREE_LETTERS, Task((open_machine(1),) * 3, ((),))):
            for person in range(4):
                for letter in range(4):
                    right = person < len(task.machines) and letter < task.machines[0].letters
                    self.assertIs(is_fixed(task, 2, ((1, person, letter),)), right)

    def test_numbers_that_are_none(self):
        for n in NO_NUMBERS + tuple(odd_values()):
            self.assertIs(is_fixed(FREE, n, ()), False)
            self.assertIs(is_fixed(FREE, n, ((0, 0, 0),)), False)

    def test_any_value(self):
        for value in odd_values():
            self.assertIs(is_fixed(FREE, 3, value), False)
            self.assertIs(is_fixed(FREE, 3, (value,)), False)
            self.assertIs(is_fixed(FREE, 3, ((0, 0, value),)), False)
            self.assertIs(is_fixed(FREE, 3, ((value, 0, 0),)), False)
            self.assertIs(is_fixed(FREE, 3, ((0, value, 0),)), False)
            self.assertIs(is_fixed(FREE, 3, ((0, 0, 0), value)), False)

    def test_all_places_of_ten_days(self):
        task = Task((open_machine(3),) * 3, ((),) * 4)
        value = tuple((day, person, 2) for day in range(10) for person in range(3))
        self.assertIs(is_fixed(task, 10, value), True)
        self.assertIs(is_fixed(task, 10, value + value[-1:]), False)
        self.assertEqual(forced(task, 10, value), value)

    def test_tuples_of_their_own(self):
        self.assertIs(is_fixed(FREE, 3, Tuple([Tuple((0, 0, 1)), Tuple((0, 1, 0))])), True)

    def test_by_name(self):
        self.assertIs(is_fixed(task=FREE, n=3, value=()), True)


class ErrorsTest(unittest.TestCase):
    def check(self, error, value, *told):
        for function in (forced, lambda *told: nearest(*told, None), walls):
            with self.assertRaises(error) as caught:
                function(*told)
            self.assertIs(caught.exception.value, value)

    def test_numbers(self):
        for value in NO_NUMBERS + tuple(odd_values()):
            for fixed in ((), NOT_FIXED[0], None):
                self.check(InvalidNumber, value, FREE, value, fixed)
                self.check(InvalidNumber, value, NO_DAY, value, fixed)

    def test_fixed(self):
        for value in NOT_FIXED + tuple(odd_values()):
            self.check(InvalidFixed, value, FREE, 3, value)
        for value in (((0, 1, 0),), ((0, 0, 2),), ((1, 0, 0),)):
            self.check(InvalidFixed, value, NO_DAY, 1, value)

    def test_fixed_for_no_days(self):
        for value in (((0, 0, 0),), None, []):
            self.check(InvalidFixed, value, FREE, 0, value)

    def test_old(self):
        old = ((0, 0), (1, 0), (0, 1))
        wrong = [old[:2], old + ((0, 0),), (), old[:2] + ((0, 2),), old[:2] + ((0,),), old[:2] + ((0, 0, 0),), list(old),
                 old[:2] + ([0, 0],), old[:2] + ((0, True),), old[:2] + ((-1, 0),), old[:2] + (None,), ((),) * 3, old[0]]
        for value in wrong + odd_values():
            for task in (FREE, TASK):
                with self.assertRaises(InvalidRota) as caught:
                    nearest(task, 3, (), value)
                self.assertIs(caught.exception.value, value)

    def test_old_comes_ahead_of_undefined(self):
        with self.assertRaises(InvalidRota):
            nearest(TWO_DAYS, 3, (), ((1,), (1,)))
        with self.assertRaises(InvalidRota):
            nearest(NO_DAY, 1, (), ((2,),))
        with self.assertRaises(InvalidFixed):
            nearest(NO_DAY, 1, ((0, 0, 2),), ((2,),))

    def test_undefined(self):
        for task, n, fixed in tasks_with_fixed(80):
            there = bool(reckon.rotas_with(task, n, fixed))
            old = reckon.random_deals(random.Random(81), task, n)
            for function, told in ((forced, ()), (nearest, (old,))):
                if there:
                    function(task, n, fixed, *told)
                else:
                    with self.assertRaises(Undefined) as caught:
                        function(task, n, fixed, *told)
                    self.assertEqual(caught.exception.what, "rota")


class ForcedTest(unittest.TestCase):
    def test_against_all_rotas(self):
        sizes = set()
        for task, n, fixed in tasks_with_fixed(82):
            if reckon.rotas_with(task, n, fixed):
                value = forced(task, n, fixed)
                self.assertEqual(value, reckon.forced(task, n, fixed))
                self.assertLessEqual(set(fixed), set(value))
                self.assertTrue(is_plain(value))
                sizes.add(len(value) - len(fixed))
        self.assertLessEqual({0, 1, 2, 3}, sizes)

    def test_no_days(self):
        for task in (TASK, NO_DAY, FREE):
            self.assertEqual(forced(task, 0, ()), ())

    def test_nothing_is_forced(self):
        self.assertEqual(forced(FREE, 10, ()), ())
        self.assertEqual(forced(FREE, 10, ((9, 1, 1),)), ((9, 1, 1),))

    def test_one_letter_alone(self):
        task = Task((open_machine(1),) * 2, ((),))
        self.assertEqual(forced(task, 2, ()), ((0, 0, 0), (0, 1, 0), (1, 0, 0), (1, 1, 0)))

    def test_days_ahead_and_behind(self):
        # Letter 1 comes on two days in a row at least, and day 4 is none of it.
        machine = Machine(2, ((0, 1), (-1, 2), (0, 2)))
        task = Task((machine,), ((),))
        self.assertEqual(forced(task, 5, ((2, 0, 1), (4, 0, 0))), ((2, 0, 1), (4, 0, 0)))
        self.assertEqual(
            forced(task, 5, ((1, 0, 0), (2, 0, 1), (4, 0, 0))), ((0, 0, 0), (1, 0, 0), (2, 0, 1), (3, 0, 1), (4, 0, 0)))
        self.assertEqual(forced(task, 4, ((2, 0, 1), (3, 0, 0))), ((1, 0, 1), (2, 0, 1), (3, 0, 0)))

    def test_what_would_end_too_early_does_not_count(self):
        task = Task((Machine(2, ((1, 2), (1, 1), (3, 3), (-1, -1))),), ((),))
        self.assertEqual(forced(task, 2, ()), ())
        self.assertEqual(forced(task, 3, ()), ((0, 0, 0),))
        self.assertEqual(forced(task, 2, ((0, 0, 1),)), ((0, 0, 1),))

    def test_by_name(self):
        self.assertEqual(forced(task=TASK, n=3, fixed=()), forced(TASK, 3, ()))


class NearestTest(unittest.TestCase):
    def test_against_all_rotas(self):
        source = random.Random(83)
        ties = 0
        for task, n, fixed in tasks_with_fixed(84, 160):
            there = reckon.rotas_with(task, n, fixed)
            if there:
                old = reckon.random_deals(source, task, n)
                value = nearest(task, n, fixed, old)
                self.assertEqual(value, reckon.nearest(task, n, fixed, old))
                self.assertTrue(is_plain(value))
                ties += sum(reckon.unlike(old, other) == reckon.unlike(old, value) for other in there) > 1
        self.assertGreater(ties, 20)

    def test_a_rota_is_nearest_to_itself(self):
        for task, n, _ in tasks_with_fixed(85, 20):
            for old in reckon.rotas(task, n)[:20]:
                self.assertEqual(nearest(task, n, (), old), old)

    def test_what_is_fixed_alone_is_changed(self):
        old = ((0, 1), (1, 1), (1, 0))
        self.assertEqual(nearest(FREE, 3, ((0, 1, 0), (2, 0, 1), (2, 1, 1)), old), ((0, 0), (1, 1), (1, 1)))

    def test_the_first_of_several(self):
        # Just one of both has letter 1; whichever is changed, it is one place.
        task = Task((open_machine(2), open_machine(2)), (((1, (0, 1), 1, 1),),))
        self.assertEqual(nearest(task, 2, (), ((1, 1), (0, 0))), ((0, 1), (0, 1)))
        self.assertEqual(nearest(task, 2, ((0, 0, 1),), ((1, 1), (0, 0))), ((1, 0), (0, 1)))

    def test_places_of_people_count_not_days(self):
        # Person 0 keeps the letter of day 0 for ever; person 1 may have any letter.
        machine = Machine(2, ((1, 2), (1, -1), (-1, 2)))
        task = Task((machine, open_machine(2)), ((),))
        self.assertEqual(nearest(task, 3, (), ((1, 0), (0, 1), (0, 0))), ((0, 0), (0, 1), (0, 0)))
        self.assertEqual(nearest(task, 3, ((0, 0, 1),), ((1, 0), (0, 1), (0, 0))), ((1, 0), (1, 1), (1, 0)))

    def test_ten_days(self):
        old = ((1, 1),) * 10
        self.assertEqual(nearest(FREE, 10, ((4, 0, 0),), old), old[:4] + ((0, 1),) + old[5:])

    def test_no_days(self):
        self.assertEqual(nearest(NO_DAY, 0, (), ()), ())

    def test_by_name(self):
        old = ((0, 0),) * 3
        self.assertEqual(nearest(task=TASK, n=3, fixed=(), old=old), nearest(TASK, 3, (), old))


class WallsTest(unittest.TestCase):
    def test_just_where_there_is_no_rota(self):
        there = []
        for task, n, fixed in tasks_with_fixed(86):
            there.append(bool(reckon.rotas_with(task, n, fixed)))
            if there[-1]:
                with self.assertRaises(Undefined) as caught:
                    walls(task, n, fixed)
                self.assertEqual(caught.exception.what, "rota")
            else:
                value = walls(task, n, fixed)
                self.assertTrue(reckon.walls(task, n, fixed, value))
                self.assertIs(walls_hold(task, n, fixed, value), True)
                self.assertTrue(is_plain(value))
                self.assertEqual(walls(Task(task.machines, task.wants), n, fixed), value)
        self.assertGreater(there.count(False), 40)

    def test_there_is_always_a_rota_of_no_days(self):
        for task in (TASK, NO_DAY, FREE):
            with self.assertRaises(Undefined):
                walls(task, 0, ())
            for value in ((), ((),), (((0, (0, 0)),),), (((0, (0,)),),)):
                self.assertIs(walls_hold(task, 0, (), value), False)

    def test_nothing_holds_where_there_is_a_rota(self):
        for task, n, fixed in tasks_with_fixed(87, 30):
            if reckon.rotas_with(task, n, fixed):
                states = tuple(reckon.all_states(task))
                self.assertIs(walls_hold(task, n, fixed, (states,) * n + ((),)), False)
                there = [{reckon.state_behind(task, value[:k]) for value in reckon.rotas_with(task, n, fixed)} for k in range(n)]
                self.assertIs(walls_hold(task, n, fixed, tuple(tuple(sorted(some)) for some in there) + ((),)), False)

    def test_by_name(self):
        self.assertEqual(walls(task=TWO_DAYS, n=3, fixed=()), walls(TWO_DAYS, 3, ()))


class WallsHoldTest(unittest.TestCase):
    # The states of TWO_DAYS behind 0, 1 and 2 days.
    ROWS = (((0, (0,)),), ((0, (1,)),), ((0, (2,)),), ())

    def check(self, right, value, n=3, fixed=(), task=TWO_DAYS):
        self.assertIs(walls_hold(task, n, fixed, value), right)

    def test_the_walls(self):
        self.assertEqual(walls(TWO_DAYS, 3, ()), self.ROWS)
        self.assertEqual(walls(TWO_DAYS, 5, ()), self.ROWS + ((), ()))
        self.check(True, self.ROWS)
        self.check(True, self.ROWS + ((), ()), n=5)

    def test_more_or_less_days(self):
        for n in range(8):
            self.check(n == 3, self.ROWS, n=n)
        for value in (self.ROWS[:3], self.ROWS[1:], self.ROWS + ((),), self.ROWS[:2] + self.ROWS[3:], self.ROWS * 2):
            self.check(False, value)

    def test_more_states(self):
        # State 3 leads on to itself by letter 1, so it would have to stand on all days behind that.
        for k, right in ((0, False), (1, False), (2, False), (3, False)):
            value = self.ROWS[:k] + (tuple(sorted(self.ROWS[k] + ((0, (3,)),))),) + self.ROWS[k + 1:]
            self.check(right, value)
        value = (self.ROWS[0], self.ROWS[1], self.ROWS[1] + self.ROWS[2], ())
        self.check(False, value)
        value = (self.ROWS[0], self.ROWS[1] + self.ROWS[2], self.ROWS[2], ())
        self.check(True, value)
        self.check(True, (self.ROWS[0] + self.ROWS[2], self.ROWS[1] + self.ROWS[2], self.ROWS[2], ()))
        self.check(True, (self.ROWS[0] + self.ROWS[1], self.ROWS[1] + self.ROWS[2], self.ROWS[2], ()))

    def test_states_left_out_and_in_another_order(self):
        for k in range(3):
            self.check(False, self.ROWS[:k] + ((),) + self.ROWS[k + 1:])
        both = self.ROWS[0] + self.ROWS[1]
        self.check(False, (both[::-1], self.ROWS[1] + self.ROWS[2], self.ROWS[2], ()))
        self.check(False, (self.ROWS[0] * 2, self.ROWS[1], self.ROWS[2], ()))
        self.check(False, self.ROWS[::-1])

    def test_a_state_at_n(self):
        for task, n, fixed in tasks_with_fixed(88, 40):
            if not reckon.rotas_with(task, n, fixed):
                value = walls(task, n, fixed)
                for state in reckon.all_states(task):
                    self.check(False, value[:-1] + ((state,),), n, fixed, task)

    def test_without_the_state_at_the_beginning(self):
        self.check(False, ((),) + self.ROWS[1:])
        self.check(False, ((),) * 4)
        self.check(False, (((0, (2,)),), (), (), ()))
        self.check(True, (((0, (0,)), (0, (2,))),) + self.ROWS[1:])

    def test_states_of_another_weekday(self):
        # On weekday 0 all is let, on weekday 1 nothing.
        task = Task((open_machine(2),), ((), ((0, (0,), 1, 0),)))
        rows = (((0, (0,)),), ((1, (0,)),), ())
        self.check(True, rows, 2, (), task)
        self.check(False, (rows[0], rows[0], ()), 2, (), task)
        self.check(True, (rows[0] + rows[1], rows[1], ()), 2, (), task)
        self.check(False, (rows[0], rows[0] + rows[1], ()), 2, (), task)
        self.check(False, (rows[1], (), ()), 2, (), task)
        # Whatever is let on a state's own weekday counts, not on that of the day.
        self.check(True, (rows[0] + rows[1], rows[1], (), ()), 3, (), task)
        self.check(False, (rows[0], (), ()), 2, (), task)

    def test_what_is_fixed_counts_on_its_day_alone(self):
        rows = (((0, (0, 0)),), ((0, (0, 0)),), ())
        task = Task((open_machine(2), open_machine(2)), (((1, (0, 1), 1, 1),),))
        self.check(True, rows, 2, ((1, 0, 1), (1, 1, 1)), task)
        self.check(False, rows, 2, ((0, 0, 1), (0, 1, 1)), task)
        self.check(True, (rows[0], (), ()), 2, ((0, 0, 1), (0, 1, 1)), task)
        self.check(False, rows, 2, ((1, 0, 1),), task)
        self.check(False, rows, 2, (), task)
        self.check(False, rows, 2, ((0, 0, 1), (1, 1, 1)), task)

    def test_walls_of_fewer_things_fixed(self):
        for task, n, fixed in tasks_with_fixed(89, 40):
            if fixed and not reckon.rotas_with(task, n, fixed):
                for k in range(len(fixed)):
                    other = fixed[:k] + fixed[k + 1:]
                    value = walls(task, n, fixed)
                    self.check(reckon.walls(task, n, other, value), value, n, other, task)

    def test_all_states_that_lead_nowhere(self):
        # Nothing can be dealt on weekday 0 at any state, so all of its states may be there.
        task = Task((open_machine(2, 3), open_machine(2, 2)), (((0, (0,), 1, 0),), ()))
        states = tuple(reckon.all_states(task))
        self.check(True, (states[:6], (), ()), 2, (), task)
        self.check(False, (states, (), ()), 2, (), task)
        self.check(True, (states, states[:6], ()), 2, (), task)
        self.check(False, (states, states, ()), 2, (), task)

    def test_changed_at_one_place(self):
        for task, n, fixed in tasks_with_fixed(90, 30):
            if not reckon.rotas_with(task, n, fixed):
                for value in changed(walls(task, n, fixed)):
                    self.check(reckon.walls(task, n, fixed, value), value, n, fixed, task)

    def test_numbers_and_fixed_that_are_none(self):
        for n in NO_NUMBERS + tuple(odd_values()):
            self.check(False, self.ROWS, n=n)
        for n in (10, 11):
            self.check(n == 10, self.ROWS + ((),) * (n - 3), n=n)
        for n in (True, 1):
            self.check(n is not True, (((0, (0,)),), ()), n=n, task=NO_DAY)
        for fixed in NOT_FIXED + tuple(odd_values()):
            self.check(False, self.ROWS, fixed=fixed)
        for fixed in (((3, 0, 0),), ((0, 1, 0),), ((0, 0, 2),), [], None, ((1, 0, 0), (0, 0, 0)), ((0, 0, 0), (0, 0, 1))):
            self.check(False, self.ROWS, fixed=fixed)

    def test_any_value(self):
        for value in odd_values() + [list(self.ROWS), [list(row) for row in self.ROWS], tuple(list(row) for row in self.ROWS)]:
            self.check(False, value)
            for k in range(4):
                self.check(False, self.ROWS[:k] + (value,) + self.ROWS[k + 1:])
                self.check(False, self.ROWS[:k] + (self.ROWS[k] + (value,),) + self.ROWS[k + 1:])
                self.check(False, self.ROWS[:k] + (((0, value),),) + self.ROWS[k + 1:])
                self.check(False, self.ROWS[:k] + (((value, (k,)),),) + self.ROWS[k + 1:])
        for state in ((0, (4,)), (1, (0,)), (0, (0, 0)), (0, ()), (0, (-1,)), (False, (0,)), (0, (True,))):
            self.check(False, (self.ROWS[0], self.ROWS[1], self.ROWS[2] + (state,), ()))

    def test_tuples_of_their_own(self):
        def own(value):
            return Tuple([own(x) for x in value]) if isinstance(value, tuple) else value
        self.check(True, own(self.ROWS))
        self.check(True, own(self.ROWS), fixed=own(((0, 0, 1),)))

    def test_the_greatest_tasks(self):
        turning = Machine(3, tuple(tuple((state + letter) % 4 for letter in range(3)) for state in range(4)))
        task = Task((turning,) * 3, (((2, (0, 1, 2), 0, 0),),) * 4)
        value = walls(task, 10, ((9, 2, 2),))
        self.assertIs(walls_hold(task, 10, ((9, 2, 2),), value), True)
        self.assertIs(walls_hold(task, 10, ((9, 2, 1),), value), False)

    def test_by_name(self):
        self.assertIs(walls_hold(task=TWO_DAYS, n=3, fixed=(), value=self.ROWS), True)


if __name__ == "__main__":
    unittest.main()
