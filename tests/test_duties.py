"""[19], [20]: jobs, duties, the fewest crews, jobs that are apart, the cheapest duties, and their prices."""

import random
import unittest

from dutyweeks.duties import (
    apart_holds, apart_jobs, cheapest, cost_of, crews, duties, is_duties, job_prices, job_prices_hold)
from dutyweeks.errors import InvalidJobs, InvalidNumber, InvalidPart
from tests import reckon_day as reckon
from tests.samples import Tuple, changed, is_plain, odd_values

# Job 1 begins as job 0 ends, job 2 a bit before; job 3 is late.
JOBS = ((0, 10), (10, 20), (9, 12), (30, 40))
EIGHT = tuple((100 * k, 100 * k + 50) for k in range(8))

NO_JOBS = (
    ((0, 1),) * 9, ((1, 1),), ((2, 1),), ((-1, 1),), ((0, 1000),), ((999, 1000),), ((0,),), ((0, 1, 2),), ((),), (0, 1), ((True, 2),),
    ((0, True),), ((False, 1),), ((None, 1),), ((0, "1"),), ([0, 1],), [(0, 1)], [], None, 0, "01", ((0, 1), None), ((0, 1), (3, 3)))
NO_RESTS = (-1, 100, 10 ** 11, True, False, None, "0", (0,), [0])
NO_PAYS = (-1, 1000, 10 ** 11, True, False, None, "0", (0,), [0])
NO_IDLES = (-1, 10, 10 ** 11, True, False, None, "0", (0,), [0])


def samples(seed, many, most=6):
    source = random.Random(seed)
    return [(reckon.random_jobs(source, most), source.choice((0, 0, 1, 2, 5, 99))) for _ in range(many)]


def priced(seed, many, most=6):
    source = random.Random(seed)
    return [(jobs, rest, source.choice((0, 1, 3, 10, 40, 999)), source.randint(0, source.choice((1, 3, 9))))
            for jobs, rest in samples(seed, many, most)]


class IsDutiesTest(unittest.TestCase):
    def check(self, right, value, jobs=JOBS, rest=0):
        self.assertIs(is_duties(jobs, rest, value), right)

    def test_each_job_once_ascending(self):
        for value in (((0,), (1,), (2,), (3,)), ((0, 1), (2, 3)), ((0, 1, 3), (2,)), ((0, 3), (1,), (2,)), ((0,), (1, 3), (2,)),
                      ((0,), (1,), (2, 3)), ((0, 1), (2,), (3,))):
            self.check(True, value)
            self.check(False, value[::-1])
            self.check(False, value[1:])
            self.check(False, value[:-1])
            self.check(False, value * 2)
            self.check(False, value + value[-1:])
            self.check(False, value[:1] + value)

    def test_twice_left_out_or_not_there(self):
        for value in ((), ((0, 1), (2,)), ((0, 1), (1, 3), (2,)), ((0, 1, 3), (2, 3)), ((0, 1), (2, 3), (4,)), ((-1,), (0, 1), (2, 3)),
                      ((), (0, 1), (2, 3)), ((0, 0), (1,), (2,), (3,)), ((0,), (0,), (1,), (2, 3)), ((0, 1), (2, 3), (3,))):
            self.check(False, value)

    def test_what_cannot_follow(self):
        for value in (((0, 2), (1,), (3,)), ((1, 0), (2, 3)), ((0, 1), (3, 2)), ((0,), (1, 2), (3,)), ((0, 3, 1), (2,)), ((0, 1, 2, 3),)):
            self.check(False, value)

    def test_rest(self):
        for rest in (0, 9, 10, 11, 20, 21, 99):
            self.check(rest <= 0, ((0, 1), (2,), (3,)), rest=rest)
            self.check(rest <= 10, ((0,), (1, 3), (2,)), rest=rest)
            self.check(rest <= 20, ((0, 3), (1,), (2,)), rest=rest)
            self.check(True, ((0,), (1,), (2,), (3,)), rest=rest)
        for begin in (98, 99, 100, 101):
            self.check(begin >= 100, ((0, 1),), ((0, 1), (begin, 999)), 99)

    def test_no_jobs(self):
        self.check(True, (), ())
        for value in (((),), ((0,),), None, 0, [], False):
            self.check(False, value, ())

    def test_against_all_ways(self):
        source = random.Random(100)
        for jobs, rest in samples(101, 60, 5):
            there = reckon.all_duties(jobs, rest)
            for value in there:
                self.check(True, value, jobs, rest)
            for groups in reckon.partitions(list(range(len(jobs)))):
                value = tuple(sorted(tuple(source.sample(group, len(group))) for group in groups))
                self.check(value in there, value, jobs, rest)

    def test_changed_at_one_place(self):
        there = reckon.all_duties(JOBS, 0)
        for value in there:
            for other in changed(value):
                right = repr(other) in [repr(one) for one in there]
                self.check(right, other)

    def test_any_value(self):
        for value in odd_values() + [[(0, 1), (2, 3)], ([0, 1], (2, 3)), ((0, 1), [2, 3]), (0, 1, 2, 3), ((0, 1), (2, 3), ())]:
            self.check(False, value)
            self.check(False, ((0, 1), value))
            self.check(False, ((0, 1), (2, value)))
            self.check(False, ((value, 1), (2, 3)))
        for value in (((False, 1), (2, 3)), ((0, True), (2, 3))):
            self.check(False, value)

    def test_tuples_of_their_own(self):
        self.check(True, Tuple([Tuple((0, 1)), Tuple((2, 3))]), Tuple([Tuple(job) for job in JOBS]))

    def test_by_name(self):
        self.assertIs(is_duties(jobs=JOBS, rest=0, value=((0, 1), (2, 3))), True)


class ErrorsTest(unittest.TestCase):
    def check(self, functions, error, value, *told):
        for function in functions:
            with self.assertRaises(error) as caught:
                function(*told)
            self.assertIs(caught.exception.value, value)

    BY_REST = (crews, duties, apart_jobs, lambda jobs, rest: is_duties(jobs, rest, None))
    BY_COST = (cheapest, job_prices, lambda *told: cost_of(*told, None))

    def test_jobs(self):
        for value in NO_JOBS + tuple(odd_values()):
            for rest in (0, 100, None):
                self.check(self.BY_REST, InvalidJobs, value, value, rest)
                self.check(self.BY_COST, InvalidJobs, value, value, rest, None, None)

    def test_rests(self):
        for value in NO_RESTS + tuple(odd_values()):
            for jobs in ((), JOBS):
                self.check(self.BY_REST, InvalidNumber, value, jobs, value)
                self.check(self.BY_COST, InvalidNumber, value, jobs, value, -5, -6)

    def test_pays_and_idles(self):
        for jobs in ((), JOBS):
            for value in NO_PAYS + tuple(odd_values()):
                self.check(self.BY_COST, InvalidNumber, value, jobs, 0, value, -6)
            for value in NO_IDLES + tuple(odd_values()):
                self.check(self.BY_COST, InvalidNumber, value, jobs, 0, 0, value)

    def test_what_are_no_duties(self):
        for value in [(), ((0, 1), (2,)), ((0, 2), (1, 3)), ((2, 3), (0, 1)), [(0, 1), (2, 3)], ((0, True), (2, 3))] + odd_values():
            self.check((cost_of,), InvalidPart, value, JOBS, 0, 5, 1, value)
            self.check((cost_of,), InvalidNumber, -1, JOBS, 0, 5, -1, value)
        self.check((cost_of,), InvalidPart, ((0, 1), (2, 3)), JOBS, 1, 5, 1, ((0, 1), (2, 3)))

    def test_bounds(self):
        for jobs in (((0, 999),), ((0, 1),) * 8, ((998, 999),)):
            for rest in (0, 99):
                self.assertEqual(crews(jobs, rest), len(jobs))
                self.assertEqual(cost_of(jobs, rest, 999, 9, cheapest(jobs, rest, 999, 9)), 999 * len(jobs))


class CrewsTest(unittest.TestCase):
    def test_against_all_ways(self):
        sizes = set()
        for jobs, rest in samples(102, 200):
            least = min(len(value) for value in reckon.all_duties(jobs, rest))
            self.assertEqual(crews(jobs, rest), least)
            self.assertIn(duties(jobs, rest), reckon.all_duties(jobs, rest))
            self.assertEqual(len(duties(jobs, rest)), least)
            self.assertTrue(is_plain(duties(jobs, rest)))
            self.assertIs(is_duties(jobs, rest, duties(jobs, rest)), True)
            sizes.add((len(jobs), least))
        self.assertGreater(len(sizes), 15)

    def test_jobs_that_follow_at_once(self):
        jobs = tuple((k, k + 1) for k in range(8))
        self.assertEqual(crews(jobs, 0), 1)
        self.assertEqual(duties(jobs, 0), (tuple(range(8)),))
        self.assertEqual(crews(jobs[::-1], 0), 1)
        self.assertEqual(duties(jobs[::-1], 0), ((7, 6, 5, 4, 3, 2, 1, 0),))
        for rest, many in ((1, 2), (2, 3), (6, 7), (7, 8), (99, 8)):
            self.assertEqual(crews(jobs, rest), many)

    def test_a_rest_of_99(self):
        for begin, many in ((149, 2), (150, 2), (249, 1), (248, 2)):
            self.assertEqual(crews(((0, 150), (begin, 900)), 99), many)

    def test_no_jobs(self):
        for rest in (0, 99):
            self.assertEqual(crews((), rest), 0)
            self.assertEqual(duties((), rest), ())
            self.assertEqual(apart_jobs((), rest), ())
            self.assertIs(apart_holds((), rest, 0, ()), True)

    def test_the_same_job_several_times(self):
        self.assertEqual(crews(((3, 5),) * 8, 0), 8)
        self.assertEqual(duties(((3, 5), (3, 5), (5, 6), (5, 6)), 0), ((0, 2), (1, 3)))

    def test_by_name(self):
        self.assertEqual(crews(jobs=JOBS, rest=0), 2)
        self.assertEqual(duties(jobs=JOBS, rest=0), duties(JOBS, 0))
        self.assertEqual(apart_jobs(jobs=JOBS, rest=0), apart_jobs(JOBS, 0))


class ApartTest(unittest.TestCase):
    def test_as_many_as_crews(self):
        for jobs, rest in samples(103, 200, 8):
            value = apart_jobs(jobs, rest)
            self.assertIn(value, reckon.all_apart(jobs, rest))
            self.assertEqual(len(value), max(len(some) for some in reckon.all_apart(jobs, rest)))
            self.assertEqual(len(value), crews(jobs, rest))
            self.assertTrue(is_plain(value))
            self.assertIs(apart_holds(jobs, rest, len(value), value), True)

    def test_all_sets_of_jobs(self):
        for jobs, rest in samples(104, 40, 5):
            there = reckon.all_apart(jobs, rest)
            for bits in range(2 ** len(jobs)):
                value = tuple(k for k in range(len(jobs)) if bits >> k & 1)
                for many in range(len(jobs) + 2):
                    self.assertIs(apart_holds(jobs, rest, many, value), value in there and len(value) == many)

    def test_one_less_one_more_and_two_that_can_follow(self):
        # Jobs 1 and 2 are apart, also job 0 and 2; with a rest of 11 all but the last one, with 21 all with job 0.
        self.assertIs(apart_holds(JOBS, 0, 2, (0, 2)), True)
        self.assertIs(apart_holds(JOBS, 0, 2, (1, 2)), True)
        for many, value in ((2, (0,)), (1, (0, 2)), (3, (0, 2)), (2, (0, 1)), (3, (0, 1, 2)), (2, (0, 3)), (2, (2, 3)), (4, (0, 1, 2, 3))):
            self.assertIs(apart_holds(JOBS, 0, many, value), False)
        self.assertIs(apart_holds(JOBS, 1, 3, (0, 1, 2)), True)
        self.assertIs(apart_holds(JOBS, 20, 4, (0, 1, 2, 3)), False)
        self.assertIs(apart_holds(JOBS, 21, 4, (0, 1, 2, 3)), True)

    def test_fewer_jobs_hold_too(self):
        for many, value in ((0, ()), (1, (3,)), (2, (0, 1))):
            self.assertIs(apart_holds(JOBS, 99, many, value), True)

    def test_no_numbers_of_jobs(self):
        for value in ((2, 0), (0, 0), (0, 4), (-1, 0), (0, True), (False, 2), (0, None), ("0", 2), [0, 2], ((0, 2),), (0, (2,))):
            self.assertIs(apart_holds(JOBS, 0, 2, value), False)
        for value in odd_values():
            for many in (0, 1, 2):
                self.assertIs(apart_holds(JOBS, 0, many, value), False)
                self.assertIs(apart_holds(JOBS, 0, many, (0, value)), False)

    def test_numbers_that_are_none(self):
        for many in [True, False, None, "2", (2,), [2], -1, 10 ** 11, 4] + odd_values():
            for value in ((0, 2), (0,), ()):
                self.assertIs(apart_holds(JOBS, 0, many, value), False)

    def test_jobs_and_rests_that_are_none(self):
        for value in NO_JOBS + tuple(odd_values()):
            self.assertIs(apart_holds(value, 0, 0, ()), False)
            self.assertIs(apart_holds(value, 0, 1, (0,)), False)
        for value in NO_RESTS + tuple(odd_values()):
            self.assertIs(apart_holds(JOBS, value, 1, (0,)), False)
            self.assertIs(apart_holds((), value, 0, ()), False)

    def test_changed_at_one_place(self):
        for jobs, rest in samples(105, 20, 5):
            there = [repr(some) for some in reckon.all_apart(jobs, rest)]
            many = crews(jobs, rest)
            for value in changed(apart_jobs(jobs, rest)):
                right = repr(value) in there and len(value) == many
                self.assertIs(apart_holds(jobs, rest, many, value), right)

    def test_tuples_of_their_own(self):
        self.assertIs(apart_holds(Tuple([Tuple(job) for job in JOBS]), 0, 2, Tuple((0, 2))), True)

    def test_by_name(self):
        self.assertIs(apart_holds(jobs=JOBS, rest=0, many=2, value=(0, 2)), True)


class CostTest(unittest.TestCase):
    def test_what_all_duties_cost(self):
        for jobs, rest, pay, idle in priced(106, 60, 5):
            for value in reckon.all_duties(jobs, rest):
                self.assertEqual(cost_of(jobs, rest, pay, idle, value), reckon.cost(jobs, pay, idle, value))

    def test_pay_and_idle(self):
        self.assertEqual(cost_of(JOBS, 0, 7, 0, ((0, 1), (2, 3))), 14)
        self.assertEqual(cost_of(JOBS, 0, 7, 2, ((0, 1), (2, 3))), 14 + 2 * 18)
        self.assertEqual(cost_of(JOBS, 0, 0, 1, ((0, 3), (1,), (2,))), 20)
        self.assertEqual(cost_of(JOBS, 0, 999, 9, ((0,), (1,), (2,), (3,))), 4 * 999)
        self.assertEqual(cost_of(JOBS, 10, 1, 3, ((0,), (1, 3), (2,))), 3 + 30)
        self.assertEqual(cost_of((), 0, 999, 9, ()), 0)

    def test_the_cheapest_against_all_ways(self):
        fewer = 0
        for jobs, rest, pay, idle in priced(107, 250):
            there = reckon.all_duties(jobs, rest)
            least = min(reckon.cost(jobs, pay, idle, value) for value in there)
            value = cheapest(jobs, rest, pay, idle)
            self.assertIn(value, there)
            self.assertEqual(cost_of(jobs, rest, pay, idle, value), least)
            self.assertTrue(is_plain(value))
            self.assertEqual(cheapest(jobs, rest, pay, idle), value)
            fewer += len(value) > crews(jobs, rest)
        self.assertGreater(fewer, 15)

    def test_a_long_wait_against_two_duties(self):
        jobs = ((0, 10), (60, 70))
        for pay, idle, value in ((51, 1, ((0, 1),)), (49, 1, ((0,), (1,))), (99, 2, ((0,), (1,))), (101, 2, ((0, 1),)),
                                 (0, 9, ((0,), (1,))), (1, 0, ((0, 1),)), (999, 9, ((0, 1),))):
            self.assertEqual(cheapest(jobs, 0, pay, idle), value)
            self.assertEqual(cheapest(jobs, 50, pay, idle), value)
            self.assertEqual(cheapest(jobs, 51, pay, idle), ((0,), (1,)))

    def test_the_shorter_wait(self):
        # Job 2 can follow both others, which are apart; the first that is free is not the best one.
        jobs = ((0, 10), (0, 20), (20, 30))
        self.assertEqual(cheapest(jobs, 0, 999, 1), ((0,), (1, 2)))
        self.assertEqual(cheapest(jobs, 1, 999, 1), ((0, 2), (1,)))
        self.assertEqual(cheapest(jobs, 11, 999, 1), ((0,), (1,), (2,)))
        self.assertEqual(cheapest(jobs, 1, 9, 1), ((0,), (1,), (2,)))

    def test_eight_jobs(self):
        for pay, idle, many in ((999, 9, 1), (450, 9, None), (449, 9, 8), (0, 1, 8), (1, 0, 1)):
            value = cheapest(EIGHT, 0, pay, idle)
            self.assertIs(is_duties(EIGHT, 0, value), True)
            self.assertEqual(cost_of(EIGHT, 0, pay, idle, value), min(pay * 8, pay + 7 * 50 * idle))
            self.assertIn(many, (len(value), None))

    def test_no_jobs(self):
        self.assertEqual(cheapest((), 0, 999, 9), ())
        self.assertEqual(job_prices((), 0, 999, 9), ((), ()))
        self.assertIs(job_prices_hold((), 0, 999, 9, 0, ((), ())), True)
        for cost in (1, -1, False, None):
            self.assertIs(job_prices_hold((), 0, 999, 9, cost, ((), ())), False)

    def test_by_name(self):
        self.assertEqual(cost_of(jobs=JOBS, rest=0, pay=7, idle=2, value=((0, 1), (2, 3))), 50)
        self.assertEqual(cheapest(jobs=JOBS, rest=0, pay=7, idle=2), cheapest(JOBS, 0, 7, 2))
        self.assertEqual(job_prices(jobs=JOBS, rest=0, pay=7, idle=2), job_prices(JOBS, 0, 7, 2))


class PricesTest(unittest.TestCase):
    def test_they_hold_for_the_least_cost(self):
        used = 0
        for jobs, rest, pay, idle in priced(108, 250):
            least = min(reckon.cost(jobs, pay, idle, value) for value in reckon.all_duties(jobs, rest))
            value = job_prices(jobs, rest, pay, idle)
            self.assertTrue(reckon.prices(jobs, rest, pay, idle, least, value))
            self.assertIs(job_prices_hold(jobs, rest, pay, idle, least, value), True)
            self.assertTrue(is_plain(value))
            self.assertEqual(job_prices(jobs, rest, pay, idle), value)
            for cost in (least + 1, least - 1, -least - 1, 10 ** 11, None, str(least), (least,), bool(least)):
                self.assertIs(job_prices_hold(jobs, rest, pay, idle, cost, value), False)
            used += any(value[1])
        self.assertGreater(used, 15)

    def test_the_greatest(self):
        for jobs in (EIGHT, EIGHT[::-1], tuple((100 * (k // 2), 100 * (k // 2) + 50 + k) for k in range(8))):
            for rest in (0, 43, 99):
                for pay in (0, 999):
                    value = job_prices(jobs, rest, pay, 9)
                    least = cost_of(jobs, rest, pay, 9, cheapest(jobs, rest, pay, 9))
                    self.assertTrue(reckon.prices(jobs, rest, pay, 9, least, value))

    def test_another_cost_may_hold(self):
        # Values of 0 show that no duties cost less than 0.
        self.assertIs(job_prices_hold(JOBS, 0, 7, 2, 0, ((0,) * 4, (0,) * 4)), True)
        self.assertIs(job_prices_hold(JOBS, 0, 7, 2, 1, ((1, 0, 0, 0), (0,) * 4)), True)
        self.assertIs(job_prices_hold(JOBS, 0, 7, 2, 14, ((7, 0, 7, 0), (0,) * 4)), True)
        self.assertIs(job_prices_hold(JOBS, 0, 7, 2, 15, ((8, 0, 7, 0), (0,) * 4)), False)
        self.assertIs(job_prices_hold(JOBS, 0, 7, 2, 15, ((7, 1, 7, 0), (0,) * 4)), False)
        self.assertIs(job_prices_hold(JOBS, 0, 7, 2, 14, ((7, 1, 7, 0), (1, 0, 0, 0))), True)
        self.assertIs(job_prices_hold(JOBS, 0, 7, 2, 13, ((7, 1, 7, 0), (2, 0, 0, 0))), True)

    def test_costs_below_zero(self):
        self.assertIs(job_prices_hold(JOBS, 0, 7, 2, -1, ((-1, 0, 0, 0), (0,) * 4)), False)
        self.assertIs(job_prices_hold(JOBS, 0, 7, 2, 0, ((-1, 0, 1, 0), (0,) * 4)), True)

    def test_uses_below_zero(self):
        self.assertIs(job_prices_hold(JOBS, 0, 7, 2, 1, ((0,) * 4, (0, 0, 0, -1))), False)
        self.assertIs(job_prices_hold(JOBS, 0, 7, 2, 0, ((0,) * 4, (0, 0, 1, -1))), False)

    def test_values_up_to_pay_and_to_what_they_follow(self):
        # Job 3 can follow job 1 behind 10 and job 2 behind 18, with an idle of 2 for each.
        for worth, right in ((7, True), (8, False)):
            self.assertIs(job_prices_hold(JOBS, 0, 7, 2, worth, ((0, 0, 0, worth), (0,) * 4)), right)
        for worth, use, right in ((20, 0, True), (21, 0, False), (21, 1, True), (22, 1, False)):
            value = ((0, 0, 0, worth), (0, use, 0, 0))
            self.assertIs(job_prices_hold(JOBS, 0, 50, 2, worth - use, value), right)
            self.assertIs(job_prices_hold(JOBS, 10, 50, 2, worth - use, value), right)
            self.assertIs(job_prices_hold(JOBS, 11, 50, 2, worth - use, value), True)

    def test_changed_at_one_place(self):
        for jobs, rest, pay, idle in priced(109, 40, 4):
            cost = cost_of(jobs, rest, pay, idle, cheapest(jobs, rest, pay, idle))
            for value in changed(job_prices(jobs, rest, pay, idle)):
                right = reckon.prices(jobs, rest, pay, idle, cost, value)
                self.assertIs(job_prices_hold(jobs, rest, pay, idle, cost, value), right)

    def test_any_value(self):
        zeros = (0,) * 4
        for value in odd_values() + [(), (zeros,), (zeros,) * 3, [zeros, zeros], (list(zeros), zeros), (zeros, list(zeros))]:
            self.assertIs(job_prices_hold(JOBS, 0, 7, 2, 0, value), False)
            self.assertIs(job_prices_hold(JOBS, 0, 7, 2, 0, (zeros, value)), False)
            self.assertIs(job_prices_hold(JOBS, 0, 7, 2, 0, (value, zeros)), False)
        for value in (True, False, None, "0", (0,), [0]):
            for cost in (0, 1):
                self.assertIs(job_prices_hold(JOBS, 0, 7, 2, cost, ((value, 0, 0, 0), zeros)), False)
                self.assertIs(job_prices_hold(JOBS, 0, 7, 2, cost, (zeros, (value, 0, 0, 0))), False)
        for many in (3, 5):
            self.assertIs(job_prices_hold(JOBS, 0, 7, 2, 0, ((0,) * many, zeros)), False)
            self.assertIs(job_prices_hold(JOBS, 0, 7, 2, 0, (zeros, (0,) * many)), False)

    def test_what_are_none(self):
        zeros = ((0,) * 4, (0,) * 4)
        for value in NO_JOBS + tuple(odd_values()):
            for prices in (zeros, ((0,), (0,)), ((), ())):
                self.assertIs(job_prices_hold(value, 0, 7, 2, 0, prices), False)
        for wrong, place in ((NO_RESTS, 1), (NO_PAYS, 2), (NO_IDLES, 3)):
            for value in wrong + tuple(odd_values()):
                told = [JOBS, 0, 7, 2, 0, zeros]
                self.assertIs(job_prices_hold(*told), True)
                told[place] = value
                self.assertIs(job_prices_hold(*told), False)
        for value in odd_values() + [False, True, None, "0", (0,), [0]]:
            self.assertIs(job_prices_hold(JOBS, 0, 7, 2, value, zeros), False)

    def test_tuples_of_their_own(self):
        value = Tuple([Tuple((0,) * 4), Tuple((0,) * 4)])
        self.assertIs(job_prices_hold(Tuple([Tuple(job) for job in JOBS]), 0, 7, 2, 0, value), True)

    def test_by_name(self):
        self.assertIs(job_prices_hold(jobs=JOBS, rest=0, pay=7, idle=2, cost=0, value=((0,) * 4, (0,) * 4)), True)


if __name__ == "__main__":
    unittest.main()
