"""[15]: the number of rotas of so many days, the best one, and the prices that show it."""

import random
import unittest

from dutyweeks.errors import InvalidDislikes, InvalidNumber, Undefined
from dutyweeks.machines import Machine
from dutyweeks.spans import best, best_holds, best_paper, count
from dutyweeks.tasks import Task
from tests import reckon
from tests.samples import Tuple, changed, is_plain, odd_values, open_machine
from tests.test_means import DISLIKES, THIRDS, IsDislikesTest
from tests.test_rotas import NO_DAY, TASK
from tests.test_rounds import TWO_DAYS

NO_NUMBERS = (-1, 15, 16, 10 ** 12 - 1, True, False, None, "3", (3,), [3])

# Letter 1 on the first day lets one day more alone, letter 0 lets days for ever.
ENDS_BY_1 = Task((Machine(2, ((1, 2), (1, 1), (3, 3), (-1, -1))),), ((),))


def tasks_with_dislikes(seed, many=60):
    source = random.Random(seed)
    tasks = [TASK, ENDS_BY_1, TWO_DAYS] + reckon.random_tasks(seed, many)
    return [(task, reckon.random_dislikes(source, task, source.choice((1, 5, 99)))) for task in tasks]


def with_rota(seed, many=60):
    """Tasks, dislikes and numbers of days for which there are rotas, but not very many."""
    found = []
    for task, dislikes in tasks_with_dislikes(seed, many):
        for n in range(5):
            if 0 < len(reckon.rotas(task, n)) < 2000:
                found.append((task, dislikes, n))
            if len(reckon.rotas(task, n)) > 200:
                break
    return found


class CountTest(unittest.TestCase):
    def test_all_rows_of_days(self):
        for letters in (1, 2, 3):
            for people in (1, 2, 3):
                task = Task((open_machine(letters),) * people, ((),))
                for n in (0, 1, 2, 13, 14):
                    self.assertEqual(count(task, n), letters ** (people * n))

    def test_no_days(self):
        for task in reckon.random_tasks(50, 20) + [NO_DAY]:
            self.assertEqual(count(task, 0), 1)

    def test_against_all_rotas(self):
        for task in [TASK, NO_DAY, TWO_DAYS, ENDS_BY_1] + reckon.random_tasks(51, 80):
            for n in range(5):
                many = len(reckon.rotas(task, n))
                self.assertEqual(count(task, n), many)
                if many > 300:
                    break

    def test_behind_the_greatest_number_of_days(self):
        self.assertEqual([count(TWO_DAYS, n) for n in range(5)], [1, 1, 1, 0, 0])
        self.assertEqual(count(TWO_DAYS, 14), 0)
        self.assertEqual([count(NO_DAY, n) for n in (0, 1, 14)], [1, 0, 0])

    def test_fourteen_days(self):
        # No two days of letter 1 in a row: the numbers of Fibonacci.
        task = Task((Machine(2, ((0, 1), (0, -1))),), ((),))
        self.assertEqual([count(task, n) for n in range(15)], [1, 2, 3, 5, 8, 13, 21, 34, 55, 89, 144, 233, 377, 610, 987])

    def test_weekdays_go_round(self):
        task = Task((open_machine(2),), (((1, (0,), 1, 1),), (), ()))
        self.assertEqual([count(task, n) for n in range(8)], [1, 1, 2, 4, 4, 8, 16, 16])

    def test_numbers_that_are_none(self):
        for value in NO_NUMBERS + tuple(odd_values()):
            with self.assertRaises(InvalidNumber) as caught:
                count(TASK, value)
            self.assertIs(caught.exception.value, value)

    def test_by_name(self):
        self.assertEqual(count(task=TASK, n=3), len(reckon.rotas(TASK, 3)))


class BestTest(unittest.TestCase):
    def test_the_first_of_those_with_the_least_dislikes(self):
        ties = 0
        for task, dislikes, n in with_rota(52):
            value = best(task, dislikes, n)
            self.assertEqual(value, reckon.best(task, dislikes, n))
            self.assertTrue(is_plain(value))
            least = reckon.total(dislikes, value)
            ties += sum(reckon.total(dislikes, other) == least for other in reckon.rotas(task, n)) > 1
        self.assertGreater(ties, 20)

    def test_the_first_if_all_are_alike(self):
        task = Task((open_machine(2), open_machine(2)), ((), ()))
        for dislike in (0, 1, 99):
            dislikes = (((dislike,) * 2,) * 2,) * 2
            self.assertEqual(best(task, dislikes, 14), ((0, 0),) * 14)

    def test_cheap_days_that_end_too_early(self):
        # Letter 1 costs nothing on the first day, but then there is one day more alone.
        dislikes = (((9, 0),),)
        self.assertEqual(best(ENDS_BY_1, dislikes, 2), ((1,), (1,)))
        self.assertEqual(best(ENDS_BY_1, dislikes, 3), ((0,), (1,), (1,)))
        self.assertEqual(best(ENDS_BY_1, dislikes, 14), ((0,),) + ((1,),) * 13)
        self.assertTrue(reckon.prices(ENDS_BY_1, dislikes, 3, ((0,), (1,), (1,)), best_paper(ENDS_BY_1, dislikes, 3)))

    def test_the_greatest_dislikes(self):
        task = Task((open_machine(1),) * 3, ((),) * 3)
        dislikes = (((99,),) * 3,) * 3
        self.assertEqual(best(task, dislikes, 14), ((0, 0, 0),) * 14)
        self.assertEqual(best_paper(task, dislikes, 14)[0][0][1], 99 * 3 * 14)

    def test_dislikes_by_the_weekday(self):
        task = Task((open_machine(2),), ((), (), ()))
        dislikes = (((1, 0), (0, 1), (7, 5)),)
        self.assertEqual(best(task, dislikes, 7), ((1,), (0,), (1,), (1,), (0,), (1,), (1,)))

    def test_no_days(self):
        for task, dislikes in tasks_with_dislikes(53, 20):
            self.assertEqual(best(task, dislikes, 0), ())
            self.assertEqual(best_paper(task, dislikes, 0), (((reckon.start(task), 0),),))

    def test_fourteen_days(self):
        self.assertEqual(best(THIRDS, DISLIKES, 14), (((1,), (1,), (0,)) * 5)[:14])
        self.assertIs(best_holds(THIRDS, DISLIKES, 14, best(THIRDS, DISLIKES, 14), best_paper(THIRDS, DISLIKES, 14)), True)

    def test_no_rota(self):
        for function in (best, best_paper):
            for task, n in ((TWO_DAYS, 3), (TWO_DAYS, 14), (NO_DAY, 1), (NO_DAY, 14)):
                with self.assertRaises(Undefined) as caught:
                    function(task, (((0, 0),),), n)
                self.assertEqual(caught.exception.what, "rota")

    def test_no_rota_just_where_there_is_none(self):
        there = []
        for task, dislikes in tasks_with_dislikes(54):
            for n in (1, 2, 3):
                if count(task, n) > 500:
                    break
                there.append(count(task, n) > 0)
                for function in (best, best_paper):
                    if there[-1]:
                        function(task, dislikes, n)
                    else:
                        self.assertRaises(Undefined, function, task, dislikes, n)
        self.assertGreater(there.count(False), 10)

    def test_errors_in_their_order(self):
        for function in (best, best_paper):
            for value in odd_values() + [(), (((1, 100),),), (((1, True),),), (((1, 2), (1, 2)),), [[[1, 2]]]]:
                for n in (3, 15, None):
                    with self.assertRaises(InvalidDislikes) as caught:
                        function(TWO_DAYS, value, n)
                    self.assertIs(caught.exception.value, value)
            for value in NO_NUMBERS + tuple(odd_values()):
                with self.assertRaises(InvalidNumber) as caught:
                    function(TWO_DAYS, (((1, 2),),), value)
                self.assertIs(caught.exception.value, value)

    def test_by_name(self):
        self.assertEqual(best(task=THIRDS, dislikes=DISLIKES, n=4), best(THIRDS, DISLIKES, 4))
        self.assertEqual(best_paper(task=THIRDS, dislikes=DISLIKES, n=4), best_paper(THIRDS, DISLIKES, 4))


class BestPaperTest(unittest.TestCase):
    def test_it_holds(self):
        for task, dislikes, n in with_rota(55):
            rota, paper = best(task, dislikes, n), best_paper(task, dislikes, n)
            self.assertTrue(reckon.prices(task, dislikes, n, rota, paper))
            self.assertIs(best_holds(task, dislikes, n, rota, paper), True)
            self.assertTrue(is_plain(paper))
            self.assertEqual(best_paper(Task(task.machines, task.wants), dislikes, n), paper)

    def test_just_the_states_behind_so_many_days(self):
        paper = best_paper(ENDS_BY_1, DISLIKES, 3)
        states = [[state for state, _ in pairs] for pairs in paper]
        self.assertEqual(states, [[(0, (0,))], [(0, (1,)), (0, (2,))], [(0, (1,)), (0, (3,))], [(0, (1,))]])

    def test_the_greatest_tasks(self):
        source = random.Random(56)
        turning = Machine(3, tuple(tuple((state + letter) % 4 for letter in range(3)) for state in range(4)))
        task = Task((turning,) * 3, ((),) * 4)
        dislikes = reckon.random_dislikes(source, task)
        rota, paper = best(task, dislikes, 14), best_paper(task, dislikes, 14)
        self.assertIs(best_holds(task, dislikes, 14, rota, paper), True)
        cheapest = [tuple(min(range(3), key=person[day % 4].__getitem__) for person in dislikes) for day in range(14)]
        self.assertEqual(rota, tuple(cheapest))


class BestHoldsTest(unittest.TestCase):
    def setUp(self):
        self.rota = best(THIRDS, DISLIKES, 4)
        self.paper = best_paper(THIRDS, DISLIKES, 4)

    def check(self, right, value, rota=None, n=4, dislikes=DISLIKES):
        self.assertIs(best_holds(THIRDS, dislikes, n, self.rota if rota is None else rota, value), right)

    def test_prices_one_less_and_one_more(self):
        for task, dislikes, n in with_rota(57, 12):
            rota, paper = best(task, dislikes, n), best_paper(task, dislikes, n)
            for k, pairs in enumerate(paper):
                for at, (state, price) in enumerate(pairs):
                    for more in (1, -1, -10 ** 11, 10 ** 11):
                        other = pairs[:at] + ((state, price + more),) + pairs[at + 1:]
                        value = paper[:k] + (other,) + paper[k + 1:]
                        right = reckon.prices(task, dislikes, n, rota, value)
                        self.assertIs(best_holds(task, dislikes, n, rota, value), right)

    def test_lower_prices_where_nothing_hangs_on_them(self):
        # From letter 1 on the first day nothing is best, so a price may be lower there, as far as the first one is not.
        dislikes = (((0, 50),),)
        rota, paper = best(ENDS_BY_1, dislikes, 2), best_paper(ENDS_BY_1, dislikes, 2)
        self.assertEqual(rota, ((0,), (0,)))
        for price, right in ((0, True), (-50, True), (-51, False), (1, False), (-7, True)):
            value = paper[:1] + ((paper[1][0], ((0, (2,)), price)),) + paper[2:]
            self.assertIs(best_holds(ENDS_BY_1, dislikes, 2, rota, value), right)

    def test_prices_of_the_last_day(self):
        # No deal is dealt at the states of the last day; their prices are at most 0.
        task = Task((open_machine(2, 1),), ((),))
        for price, right in ((0, True), (1, False), (-1, False)):
            value = ((((0, (0,)), 3),), (((0, (0,)), price),))
            self.assertIs(best_holds(task, (((5, 3),),), 1, ((1,),), value), right)
            self.assertIs(best_holds(task, (((5, 3),),), 0, (), (((((0, (0,)), price),)),)), price == 0)
        for price, right in ((3, True), (2, False), (4, False)):
            value = ((((0, (0,)), price),), (((0, (0,)), 0),))
            self.assertIs(best_holds(task, (((5, 3),),), 1, ((1,),), value), right)
        # A price above 0 for n would let any rota look like the best one.
        for more in (0, 2):
            value = ((((0, (0,)), 3 + more),), (((0, (0,)), more),))
            self.assertIs(best_holds(task, (((5, 3),),), 1, ((0,),), value), False)

    def test_prices_below_zero_for_the_last_day(self):
        task = Task((Machine(2, ((1, 2), (-1, -1), (-1, -1))),), ((),))
        for price, right in ((0, True), (-2, True), (-3, False), (1, False)):
            value = ((((0, (0,)), 3),), (((0, (1,)), price), ((0, (2,)), 0)))
            self.assertIs(best_holds(task, (((5, 3),),), 1, ((1,),), value), right)

    def test_left_out_and_unreached(self):
        for task, dislikes, n in with_rota(58, 12):
            rota, paper = best(task, dislikes, n), best_paper(task, dislikes, n)
            for k, pairs in enumerate(paper):
                there = [state for state, _ in pairs]
                for at in range(len(pairs)):
                    value = paper[:k] + (pairs[:at] + pairs[at + 1:],) + paper[k + 1:]
                    self.assertIs(best_holds(task, dislikes, n, rota, value), False)
                for state in reckon.all_states(task):
                    if state not in there:
                        value = paper[:k] + (tuple(sorted(pairs + ((state, 0),))),) + paper[k + 1:]
                        self.assertIs(best_holds(task, dislikes, n, rota, value), False)

    def test_other_rotas_of_as_many_days(self):
        right = 0
        for task, dislikes, n in with_rota(59, 25):
            paper = best_paper(task, dislikes, n)
            least = reckon.total(dislikes, best(task, dislikes, n))
            for rota in reckon.rotas(task, n)[:100]:
                same = reckon.total(dislikes, rota) == least
                self.assertIs(best_holds(task, dislikes, n, rota, paper), same)
                right += same and rota != best(task, dislikes, n)
        self.assertGreater(right, 20)

    def test_rotas_of_other_days_and_what_are_none(self):
        for rota in (self.rota[:3], self.rota + ((1,),), (), self.rota[1:], ((0,),) * 4, ((1,),) * 4, list(self.rota)):
            self.check(False, self.paper, rota=rota)
        for rota in odd_values():
            self.assertIs(best_holds(THIRDS, DISLIKES, 4, rota, self.paper), False)
            self.assertIs(best_holds(THIRDS, DISLIKES, 4, self.rota[:3] + (rota,), self.paper), False)

    def test_rotas_of_other_days_for_nothing(self):
        # The dislikes are the same, 0, but the days are not.
        task, dislikes = Task((open_machine(2),), ((),)), (((0, 0),),)
        paper = best_paper(task, dislikes, 2)
        for days in range(5):
            self.assertIs(best_holds(task, dislikes, 2, ((0,),) * days, paper), days == 2)

    def test_numbers_that_are_none(self):
        for n in NO_NUMBERS + tuple(odd_values()) + (3, 5, 0):
            self.check(False, self.paper, n=n)
        for n in (True, 1, 2):
            value = best_paper(THIRDS, DISLIKES, 1)
            self.check(n is not True and n == 1, value, rota=((1,),), n=n)
        task, dislikes = Task((open_machine(1),), ((),)), (((0,),),)
        value = ((((0, (0,)), 0),),) * 16
        for n in (14, 15):
            self.assertIs(best_holds(task, dislikes, n, ((0,),) * n, value[:n + 1]), n == 14)

    def test_dislikes_that_are_none(self):
        for value in odd_values() + [(), (((5, 100),),), (((5, 3), (5, 3)),), (DISLIKES[0], DISLIKES[0]), [[[5, 3]]]]:
            self.check(False, self.paper, dislikes=value)
        for value in ((((5, 4),),), (((6, 3),),), (((3, 5),),), IsDislikesTest.ROW):
            self.check(False, self.paper, dislikes=value)

    def test_any_value(self):
        for value in odd_values() + [(), list(self.paper), self.paper[:4], self.paper[1:], self.paper + self.paper[-1:],
                                     self.paper * 2, self.paper[::-1]]:
            self.check(False, value)
            for k in range(5):
                self.check(False, self.paper[:k] + (value,) + self.paper[k + 1:])
                self.check(False, self.paper[:k] + (self.paper[k] + (value,),) + self.paper[k + 1:])
                self.check(False, self.paper[:k] + (((self.paper[k][0][0], value),),) + self.paper[k + 1:])
        self.check(False, tuple(list(pairs) for pairs in self.paper))

    def test_prices_that_are_bools(self):
        task, dislikes = Task((open_machine(1),), ((),)), (((1,),),)
        for first, last, right in ((1, 0, True), (True, 0, False), (1, False, False)):
            value = ((((0, (0,)), first),), (((0, (0,)), last),))
            self.assertIs(best_holds(task, dislikes, 1, ((0,),), value), right)

    def test_changed_at_one_place(self):
        for task, dislikes, n in with_rota(60, 6)[::2]:
            rota, paper = best(task, dislikes, n), best_paper(task, dislikes, n)
            for value in changed(paper):
                self.assertIs(best_holds(task, dislikes, n, rota, value), reckon.prices(task, dislikes, n, rota, value))
            for value in changed(rota):
                self.assertIs(best_holds(task, dislikes, n, value, paper), reckon.prices(task, dislikes, n, value, paper))

    def test_no_prices_where_there_is_no_rota(self):
        for rota in ((), ((1,), (1,)), ((1,), (1,), (1,))):
            for n in (2, 3):
                value = best_paper(TWO_DAYS, DISLIKES, 2)
                self.assertIs(best_holds(TWO_DAYS, DISLIKES, n, rota, value), n == 2 and len(rota) == 2)
                self.assertIs(best_holds(TWO_DAYS, DISLIKES, n, rota, value + ((),)), False)

    def test_tuples_of_their_own(self):
        def own(value):
            return Tuple([own(x) for x in value]) if isinstance(value, tuple) else value
        self.assertIs(best_holds(THIRDS, own(DISLIKES), 4, own(self.rota), own(self.paper)), True)

    def test_by_name(self):
        self.assertIs(best_holds(task=THIRDS, dislikes=DISLIKES, n=4, rota=self.rota, value=self.paper), True)


if __name__ == "__main__":
    unittest.main()
