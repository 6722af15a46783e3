"""[13]: dislikes, the least average of rounds, and the papers for it."""

import random
import unittest
from fractions import Fraction

from dutyweeks.errors import InvalidDislikes, Undefined
from dutyweeks.machines import Machine
from dutyweeks.means import is_dislikes, least_mean, mean_holds, mean_paper
from dutyweeks.rotas import reached, state_after
from dutyweeks.rounds import round_holds, round_of
from dutyweeks.tasks import Task
from tests import reckon
from tests.samples import Tuple, changed, is_plain, odd_values, open_machine
from tests.test_rotas import NO_DAY, TASK
from tests.test_rounds import TWO_DAYS, ending, endless

# Letter 1 comes on two days, then letter 0 on one.
THIRDS = Task((Machine(2, ((-1, 1), (-1, 2), (0, -1))),), ((),))
DISLIKES = (((5, 3),),)


def tasks_with_dislikes(seed, many=60):
    source = random.Random(seed)
    return [(task, reckon.random_dislikes(source, task, source.choice((1, 5, 99)))) for task in endless()[:many]]


def ratio(number):
    return (number.numerator, number.denominator)


class IsDislikesTest(unittest.TestCase):
    # For two people, three weekdays and two letters.
    ROW = ((0, 99), (1, 2), (3, 4))

    def test_one_for_each_person_weekday_and_letter(self):
        self.assertIs(is_dislikes(TASK, (self.ROW, self.ROW)), True)
        row = self.ROW
        for value in ((row,), (row,) * 3, (), (row, row[:2]), (row, row + row[:1]), (row, ()), (row, row[:2] + ((1,),)),
                      (row, row[:2] + ((1, 2, 3),)), (row, row[:2] + ((),)), row, self.ROW[0]):
            self.assertIs(is_dislikes(TASK, value), False)

    def test_bounds(self):
        for number in (0, 1, 98, 99):
            self.assertIs(is_dislikes(NO_DAY, (((number, 0),),)), True)
            self.assertIs(is_dislikes(NO_DAY, (((0, number),),)), True)
        for number in (-1, 100, 10 ** 11, True, False, None, "1", (1,), [1]):
            self.assertIs(is_dislikes(NO_DAY, (((number, 0),),)), False)
            self.assertIs(is_dislikes(NO_DAY, (((0, number),),)), False)

    def test_sizes_of_the_task(self):
        task = Task((open_machine(3),) * 3, ((),) * 4)
        self.assertIs(is_dislikes(task, (((7, 8, 9),) * 4,) * 3), True)
        self.assertIs(is_dislikes(task, (((7, 8),) * 4,) * 3), False)
        self.assertIs(is_dislikes(Task((open_machine(1),), ((),)), (((7,),),)), True)

    def test_any_value(self):
        for value in odd_values():
            self.assertIs(is_dislikes(TASK, value), False)
            self.assertIs(is_dislikes(TASK, (self.ROW, value)), False)
            self.assertIs(is_dislikes(TASK, (self.ROW, self.ROW[:2] + (value,))), False)
            self.assertIs(is_dislikes(NO_DAY, (((value, 0),),)), False)
        for value in ([self.ROW] * 2, (self.ROW, list(self.ROW)), (self.ROW, self.ROW[:2] + ([1, 2],))):
            self.assertIs(is_dislikes(TASK, value), False)

    def test_tuples_of_their_own(self):
        self.assertIs(is_dislikes(NO_DAY, Tuple([Tuple([Tuple([1, 2])])])), True)

    def test_by_name(self):
        self.assertIs(is_dislikes(task=TASK, value=(self.ROW, self.ROW)), True)


class LeastMeanTest(unittest.TestCase):
    def test_averages(self):
        self.assertEqual(least_mean(THIRDS, DISLIKES), (11, 3))
        self.assertEqual(least_mean(THIRDS, (((0, 0),),)), (0, 1))
        self.assertEqual(least_mean(THIRDS, (((99, 99),),)), (99, 1))
        self.assertEqual(least_mean(THIRDS, (((1, 1),),)), (1, 1))
        self.assertEqual(least_mean(THIRDS, (((1, 4),),)), (3, 1))

    def test_lowest_terms(self):
        task = Task((open_machine(2),), ((),) * 4)
        self.assertEqual(least_mean(task, (((3, 9), (9, 1), (1, 9), (5, 6)),)), (5, 2))
        self.assertEqual(least_mean(task, (((3, 9), (9, 1), (1, 9), (4, 6)),)), (9, 4))

    def test_the_sum_of_all_people(self):
        task = Task((open_machine(2),) * 3, ((),))
        self.assertEqual(least_mean(task, (((5, 9),), ((7, 1),), ((2, 2),))), (8, 1))
        task = Task((open_machine(2),) * 3, (((1, (0, 1, 2), 1, 1),),))
        self.assertEqual(least_mean(task, (((0, 9),), ((1, 7),), ((0, 8),))), (7, 1))

    def test_dear_days_ahead_do_not_count(self):
        machine = Machine(2, ((1, -1), (2, -1), (-1, 2)))
        self.assertEqual(least_mean(Task((machine,), ((),)), (((99, 3),),)), (3, 1))

    def test_a_longer_round_may_be_cheaper(self):
        # Letter 0 stays for 5 each day; by 1, 1, 0, 2 it goes round for 4, 4, 5 and 1.
        machine = Machine(3, ((0, 1, -1), (-1, 2, -1), (3, -1, -1), (-1, -1, 0)))
        self.assertEqual(least_mean(Task((machine,), ((),)), (((5, 4, 1),),)), (7, 2))
        self.assertEqual(least_mean(Task((machine,), ((),)), (((5, 8, 1),),)), (5, 1))

    def test_against_all_small_rounds(self):
        for task, dislikes in tasks_with_dislikes(30):
            self.assertEqual(least_mean(task, dislikes), ratio(reckon.least_mean(task, dislikes)))
            self.assertTrue(is_plain(least_mean(task, dislikes)))

    def test_against_rounds_that_are_dealt(self):
        for task, dislikes in tasks_with_dislikes(31, 40):
            least = Fraction(*least_mean(task, dislikes))
            self.assertLessEqual(least, reckon.average(dislikes, round_of(task)))
            averages = [least + 1]
            for again in [again for days in (1, 2, 3) for again in reckon.rotas(task, days)[:200]]:
                if round_holds(task, ((), again)):
                    averages.append(reckon.average(dislikes, ((), again)))
            self.assertLessEqual(least, min(averages))

    def test_the_greatest_tasks(self):
        source = random.Random(32)
        turning = Machine(3, tuple(tuple((state + letter) % 4 for letter in range(3)) for state in range(4)))
        task = Task((turning,) * 3, ((),) * 4)
        dislikes = reckon.random_dislikes(source, task)
        mean, paper = least_mean(task, dislikes), mean_paper(task, dislikes)
        self.assertEqual(len(paper[2]), 256)
        self.assertTrue(reckon.mean(task, dislikes, mean, paper))
        self.assertIs(mean_holds(task, dislikes, mean, paper), True)

    def test_errors_in_their_order(self):
        for function in (least_mean, mean_paper):
            for value in odd_values() + [(), [[[1, 2]]], (((1, 100),),), (((1, True),),), (((1, 2), (1, 2)),)]:
                with self.assertRaises(InvalidDislikes) as caught:
                    function(NO_DAY, value)
                self.assertIs(caught.exception.value, value)
            for task in ending():
                with self.assertRaises(Undefined) as caught:
                    function(task, reckon.random_dislikes(random.Random(33), task))
                self.assertEqual(caught.exception.what, "ends")

    def test_by_name(self):
        self.assertEqual(least_mean(task=THIRDS, dislikes=DISLIKES), (11, 3))
        self.assertEqual(mean_paper(task=THIRDS, dislikes=DISLIKES), mean_paper(THIRDS, DISLIKES))


class MeanPaperTest(unittest.TestCase):
    def test_thirds(self):
        ahead, again, prices = mean_paper(THIRDS, DISLIKES)
        self.assertEqual((ahead, again), ((), ((1,), (1,), (0,))))
        self.assertEqual(tuple(state for state, _ in prices), reached(THIRDS))
        numbers = [price for _, price in prices]
        self.assertEqual((numbers[0] - numbers[1], numbers[1] - numbers[2], numbers[2] - numbers[0]), (-2, -2, 4))

    def test_it_holds(self):
        for task, dislikes in tasks_with_dislikes(34):
            mean, paper = least_mean(task, dislikes), mean_paper(task, dislikes)
            self.assertTrue(reckon.mean(task, dislikes, mean, paper))
            self.assertIs(mean_holds(task, dislikes, mean, paper), True)
            self.assertTrue(is_plain(paper))
            self.assertEqual(mean_paper(Task(task.machines, task.wants), dislikes), paper)

    def test_rotas_come_to_so_much_less_than_the_average_at_most(self):
        for task, dislikes in tasks_with_dislikes(35, 30):
            a, b = least_mean(task, dislikes)
            prices = dict(mean_paper(task, dislikes)[2])
            for days in (1, 2, 3):
                for value in reckon.rotas(task, days)[:60]:
                    total = sum(reckon.dislikes_of(dislikes, day, deal) for day, deal in enumerate(value))
                    start, end = prices[state_after(task, ())], prices[state_after(task, value)]
                    self.assertGreaterEqual(b * total - a * days, start - end)


class MeanHoldsTest(unittest.TestCase):
    def setUp(self):
        self.paper = mean_paper(THIRDS, DISLIKES)

    def check(self, right, value, mean=(11, 3), dislikes=DISLIKES):
        self.assertIs(mean_holds(THIRDS, dislikes, mean, value), right)

    def test_all_prices_raised_by_one(self):
        for task, dislikes in tasks_with_dislikes(36, 40):
            ahead, again, prices = mean_paper(task, dislikes)
            for more in (1, -1, 10 ** 11):
                moved = tuple((state, price + more) for state, price in prices)
                self.assertIs(mean_holds(task, dislikes, least_mean(task, dislikes), (ahead, again, moved)), True)

    def test_the_round_twice(self):
        ahead, again, prices = self.paper
        for value in ((ahead, again * 2, prices), (ahead + again, again, prices), (again[:1], again[1:] + again[:1], prices)):
            self.check(True, value)

    def test_one_price_raised_or_left_out(self):
        ahead, again, prices = self.paper
        for k, (state, price) in enumerate(prices):
            for more in (1, -1):
                self.check(False, (ahead, again, prices[:k] + ((state, price + more),) + prices[k + 1:]))
            self.check(False, (ahead, again, prices[:k] + prices[k + 1:]))
            self.check(False, (ahead, again, prices[:k + 1] + prices[k:]))
        self.check(False, (ahead, again, prices[::-1]))
        self.check(False, (ahead, again, ()))

    def test_prices_of_states_that_are_not_reached(self):
        task = Task((Machine(2, ((0, -1), (1, 1))),), ((),))
        paper = mean_paper(task, DISLIKES)
        self.assertEqual(paper[2], (((0, (0,)), paper[2][0][1]),))
        self.assertIs(mean_holds(task, DISLIKES, (5, 1), paper), True)
        for price in (0, 1, -9):
            self.assertIs(mean_holds(task, DISLIKES, (5, 1), paper[:2] + (paper[2] + (((0, (1,)), price),),)), False)
            self.assertIs(mean_holds(task, DISLIKES, (5, 1), paper[:2] + ((((0, (1,)), price),),)), False)

    def test_slack_prices(self):
        # State 1 is passed by once; its price may be less than what a way from it costs.
        task = Task((Machine(2, ((2, 1), (2, -1), (2, -1))),), ((),))
        again = ((0,),)
        for price, right in ((-99, True), (-3, True), (-2, True), (-1, False), (0, False), (2, False)):
            value = (((1,), (0,)), again, (((0, (0,)), price), ((0, (1,)), 0), ((0, (2,)), 0)))
            self.assertIs(mean_holds(task, DISLIKES, (5, 1), value), right)

    def test_other_means(self):
        for mean in ((22, 6), (-11, -3), (11, -3), (12, 3), (10, 3), (11, 2), (4, 1), (0, 1), (1, 0), (0, 0), (11, 3, 1), (11,),
                     (), [11, 3], 4, ("11", 3), (11, None), (11, True), ((11, 3),)):
            self.check(False, self.paper, mean)
        for mean in odd_values():
            self.check(False, self.paper, mean)
            self.check(False, self.paper, (mean, 3))
            self.check(False, self.paper, (11, mean))

    def test_means_not_in_lowest_terms(self):
        paper = mean_paper(THIRDS, (((1, 1),),))
        for mean, right in (((1, 1), True), ((2, 2), False), ((3, 3), False), ((-1, -1), False), ((True, 1), False)):
            self.check(right, paper, mean, (((1, 1),),))
        paper = mean_paper(THIRDS, (((0, 0),),))
        for mean, right in (((0, 1), True), ((0, 2), False), ((0, 3), False), ((0, -1), False), ((False, 1), False)):
            self.check(right, paper, mean, (((0, 0),),))

    def test_another_average_with_its_prices(self):
        # There is a round of 5 a day, but one of 3 a day too, so that no prices show 5 to be the least.
        task = Task((open_machine(2),), ((),))
        for deal, mean, right in ((((0,),), (5, 1), False), (((1,),), (3, 1), True)):
            for price in (-2, 0, 2):
                self.assertIs(mean_holds(task, DISLIKES, mean, ((), deal, (((0, (0,)), price),))), right)
        self.assertIs(mean_holds(task, DISLIKES, (4, 1), ((), ((0,), (1,)), (((0, (0,)), 0),))), False)

    def test_again_begins_on_the_weekday_behind_ahead(self):
        task = Task((open_machine(2),), ((), ()))
        dislikes = (((4, 9), (8, 1)),)
        prices = (((0, (0,)), 0), ((1, (0,)), -3))
        for ahead in ((), ((1,),), ((1,), (1,)), ((0,), (0,), (0,))):
            for again in (((0,), (1,)), ((1,), (0,))):
                right = (len(ahead) % 2 == 0) == (again == ((0,), (1,)))
                self.assertIs(mean_holds(task, dislikes, (5, 2), (ahead, again, prices)), right)
                self.assertIs(mean_holds(task, dislikes, (5, 2), (ahead, again * 3, prices)), right)
        self.assertEqual(least_mean(task, dislikes), (5, 2))

    def test_dislikes_that_are_none(self):
        for value in odd_values() + [(), (((5, 100),),), (((5, 3), (5, 3)),), (DISLIKES[0], DISLIKES[0]), [[[5, 3]]]]:
            self.check(False, self.paper, dislikes=value)

    def test_other_dislikes(self):
        for value in ((((5, 4),),), (((6, 3),),), (((3, 5),),)):
            self.check(False, self.paper, dislikes=value)
        self.check(False, self.paper, dislikes=(((3, 4),),))

    def test_any_value(self):
        ahead, again, prices = self.paper
        for value in odd_values() + [(), list(self.paper), (ahead, again), self.paper + ((),), self.paper[::-1]]:
            self.check(False, value)
            self.check(value == (), (value, again, prices))
            self.check(False, (ahead, value, prices))
            self.check(False, (ahead, again, value))
            self.check(False, (ahead, again, prices[:2] + (value,)))
            self.check(False, (ahead, again, prices[:2] + ((prices[2][0], value),)))
            self.check(False, (ahead, again, prices[:2] + ((value, prices[2][1]),)))

    def test_no_round(self):
        ahead, again, prices = self.paper
        for value in ((ahead, (), prices), (ahead, again[:2], prices), (again[:1], again, prices), (again, (), prices)):
            self.check(False, value)

    def test_changed_at_one_place(self):
        for task, dislikes in tasks_with_dislikes(37, 12):
            mean = least_mean(task, dislikes)
            for value in changed(mean_paper(task, dislikes)):
                self.assertIs(mean_holds(task, dislikes, mean, value), reckon.mean(task, dislikes, mean, value))

    def test_tasks_that_end(self):
        for value in ((((1,),) * 2, (), (((0, (0,)), 0),)), ((), ((1,),), (((0, (0,)), 0),))):
            self.assertIs(mean_holds(TWO_DAYS, DISLIKES, (3, 1), value), False)

    def test_tuples_of_their_own(self):
        def own(value):
            return Tuple([own(x) for x in value]) if isinstance(value, tuple) else value
        self.check(True, own(self.paper), own((11, 3)), own(DISLIKES))
        self.assertTrue(is_plain(mean_paper(THIRDS, own(DISLIKES))))

    def test_by_name(self):
        self.assertIs(mean_holds(task=THIRDS, dislikes=DISLIKES, mean=(11, 3), value=self.paper), True)


if __name__ == "__main__":
    unittest.main()
