"""[14]: loads, the least lead of rounds, and the rounds that keep it."""

import random
import unittest

from dutyweeks.errors import InvalidLoads, InvalidNumber, Undefined
from dutyweeks.leads import lead_holds, lead_round, least_lead
from dutyweeks.machines import Machine
from dutyweeks.rounds import round_holds
from dutyweeks.tasks import Task
from tests import reckon
from tests.samples import Tuple, changed, is_plain, odd_values, open_machine
from tests.test_rounds import TWO_DAYS, ending, endless

# The first has letter 1 on three days, then 0 on three; the second the other way round.
ONES_FIRST = Machine(2, ((-1, 1), (-1, 2), (-1, 3), (4, -1), (5, -1), (0, -1)))
ZEROS_FIRST = Machine(2, ((1, -1), (2, -1), (3, -1), (-1, 4), (-1, 5), (-1, 0)))
THREES = Task((ONES_FIRST, ZEROS_FIRST), ((),))
AGAIN = ((1, 0),) * 3 + ((0, 1),) * 3

FREE = Task((open_machine(2), open_machine(2)), ((),))

# Each day just one of the first two has letter 1; the third is free.
EITHER = Task((open_machine(2),) * 3, (((1, (0, 1), 1, 1),),))

NO_PEOPLE = (-1, 2, 3, 10 ** 11, True, False, None, "0", (0,), [0])
NO_LOADS = ((), (1,), (1, 2, 3), (1, 10), (10, 1), (-1, 1), (1, -1), (1, True), (False, 1), (1, None), ("1", 1), [1, 2],
            ((1, 2),), (1, (2,)), 1, None, "12")


def cases(seed, many=120):
    """Endless tasks of two people or three with loads and two of them; some of all kinds, some of few ways to go on."""
    source = random.Random(seed)
    tasks = reckon.random_tasks(seed, many)
    while len(tasks) < many * 8:
        letters = source.randint(2, 3)
        machines = tuple(reckon.random_machine(source, letters, source.randint(2, 6), 55) for _ in range(2))
        tasks.append(Task(machines, (((1, (0, 1), 1, 1),), ())[:source.randint(1, 2)]))
    found = []
    for task in tasks:
        people = range(len(task.machines))
        if len(people) > 1 and reckon.longest(task) is None:
            loads = tuple(source.randint(0, source.choice((1, 3, 6, 9))) for _ in range(task.machines[0].letters))
            p, q = source.sample(people, 2)
            found.append((task, loads, p, source.choice((p, q, q, q, q))))
    return found[:many]


class LeastLeadTest(unittest.TestCase):
    def test_how_far_the_sums_part(self):
        for loads, lead in (((0, 0), 0), ((0, 1), 3), ((0, 2), 6), ((1, 3), 6), ((9, 7), 6), ((5, 5), 0), ((9, 8), 3)):
            self.assertEqual(least_lead(THREES, loads, 0, 1), lead)
            self.assertEqual(least_lead(THREES, loads, 1, 0), lead)

    def test_more_than_six(self):
        for loads in ((0, 3), (3, 0), (0, 9), (9, 0), (9, 6)):
            self.assertIsNone(least_lead(THREES, loads, 0, 1))
            self.assertIsNone(least_lead(THREES, loads, 1, 0))

    def test_six_is_the_most(self):
        for load in range(10):
            self.assertEqual(least_lead(EITHER, (0, load), 0, 1), load if load <= 6 else None)

    def test_sums_that_part_for_ever(self):
        task = Task((open_machine(2), open_machine(2)), (((1, (0,), 1, 1), (1, (1,), 0, 0)),))
        self.assertIsNone(least_lead(task, (0, 1), 0, 1))
        self.assertIsNone(least_lead(task, (1, 0), 0, 1))
        self.assertEqual(least_lead(task, (4, 4), 0, 1), 0)

    def test_the_same_person(self):
        for person in (0, 1):
            self.assertEqual(least_lead(THREES, (0, 9), person, person), 0)

    def test_a_third_person_does_not_count(self):
        self.assertEqual(least_lead(EITHER, (0, 5), 0, 1), 5)
        self.assertEqual(least_lead(EITHER, (0, 5), 0, 2), 0)
        self.assertEqual(least_lead(EITHER, (0, 5), 2, 1), 0)

    def test_what_is_ahead_counts_too(self):
        # Two days of letter 1 against 0 at first, then both have 0 for ever.
        ahead = Machine(2, ((-1, 1), (-1, 2), (2, -1)))
        task = Task((ahead, Machine(2, ((0, -1),))), ((),))
        for load, lead in ((1, 2), (3, 6), (4, None)):
            self.assertEqual(least_lead(task, (0, load), 0, 1), lead)

    def test_sums_of_all_days_not_of_one(self):
        # Day by day they differ by 5 and 5 and 4 to the one side, then to the other.
        task = Task((open_machine(3), open_machine(3)), (((1, (0,), 1, 1), (0, (1,), 1, 1)), ((0, (0,), 1, 1), (1, (1,), 1, 1))))
        self.assertEqual(least_lead(task, (0, 5, 9), 0, 1), 5)

    def test_against_plain_reckoning(self):
        leads = []
        for task, loads, p, q in cases(40):
            leads.append(least_lead(task, loads, p, q))
            self.assertEqual(leads[-1], reckon.least_lead(task, loads, p, q))
            self.assertEqual(least_lead(task, loads, q, p), leads[-1])
        self.assertLessEqual({None, 0, 1, 2, 3, 4, 5, 6}, set(leads))

    def test_rotas_that_end(self):
        for task in ending()[:40]:
            last = len(task.machines) - 1
            loads = (1, 2, 3)[:task.machines[0].letters]
            self.assertIsNone(least_lead(task, loads, 0, last))
            with self.assertRaises(Undefined) as caught:
                lead_round(task, loads, 0, last)
            self.assertEqual(caught.exception.what, "lead")

    def test_the_greatest_tasks(self):
        turning = Machine(3, tuple(tuple((state + letter) % 4 for letter in range(3)) for state in range(4)))
        task = Task((turning,) * 3, (((2, (0,), 1, 1), (0, (1,), 1, 1)), ((2, (1,), 1, 1), (1, (0,), 1, 1)), (), ()))
        self.assertEqual(least_lead(task, (0, 3, 6), 0, 1), 6)
        self.assertIs(lead_holds(task, (0, 3, 6), 0, 1, 6, lead_round(task, (0, 3, 6), 0, 1)), True)
        self.assertIsNone(least_lead(task, (0, 3, 7), 0, 1))

    def test_by_name(self):
        self.assertEqual(least_lead(task=THREES, loads=(0, 1), p=0, q=1), 3)
        self.assertEqual(lead_round(task=THREES, loads=(0, 1), p=0, q=1), lead_round(THREES, (0, 1), 0, 1))


class ErrorsTest(unittest.TestCase):
    def check(self, error, value, *told):
        for function in (least_lead, lead_round):
            with self.assertRaises(error) as caught:
                function(*told)
            self.assertIs(caught.exception.value, value)

    def test_loads(self):
        for value in NO_LOADS + tuple(odd_values()):
            self.check(InvalidLoads, value, THREES, value, 0, 1)
        self.assertEqual(least_lead(Task((open_machine(1),), ((),)), (9,), 0, 0), 0)
        self.assertEqual(least_lead(Task((open_machine(3),), ((),)), (9, 0, 9), 0, 0), 0)
        self.assertEqual(least_lead(THREES, Tuple((0, 1)), 0, 1), 3)

    def test_people(self):
        for value in NO_PEOPLE + tuple(odd_values()):
            self.check(InvalidNumber, value, THREES, (0, 1), value, 1)
            self.check(InvalidNumber, value, THREES, (0, 1), 0, value)

    def test_order(self):
        for value in NO_PEOPLE:
            self.check(InvalidLoads, NO_LOADS[-1], THREES, NO_LOADS[-1], value, value)
            self.check(InvalidNumber, value, THREES, (0, 1), value, -7)

    def test_undefined_comes_last(self):
        self.check(InvalidLoads, (0, 10), TWO_DAYS, (0, 10), 0, 0)
        self.check(InvalidNumber, 1, TWO_DAYS, (0, 1), 1, 0)
        self.check(InvalidNumber, 1, TWO_DAYS, (0, 1), 0, 1)
        for loads in ((0, 3), (9, 0)):
            with self.assertRaises(Undefined) as caught:
                lead_round(THREES, loads, 0, 1)
            self.assertEqual(caught.exception.what, "lead")


class LeadRoundTest(unittest.TestCase):
    def test_it_keeps_the_least_lead(self):
        for task, loads, p, q in cases(41):
            lead = reckon.least_lead(task, loads, p, q)
            if lead is None:
                with self.assertRaises(Undefined):
                    lead_round(task, loads, p, q)
                continue
            value = lead_round(task, loads, p, q)
            self.assertTrue(reckon.lead(task, loads, p, q, lead, value))
            self.assertTrue(is_plain(value))
            self.assertEqual(lead_round(Task(task.machines, task.wants), loads, p, q), value)
            for more in range(7):
                self.assertIs(lead_holds(task, loads, p, q, more, value), more >= lead)
                self.assertIs(lead_holds(task, loads, q, p, more, value), more >= lead)

    def test_threes(self):
        self.assertEqual(lead_round(THREES, (0, 2), 0, 1), ((), AGAIN))

    def test_no_greater_lead_ahead(self):
        # At first the one has letter 1 on as many days as it likes, the other none; then they change for two days.
        one = Machine(2, ((1, 0), (1, 1)))
        task = Task((one, one), ((),))
        self.assertEqual(least_lead(task, (0, 1), 0, 1), 0)
        ahead, again = lead_round(task, (0, 1), 0, 1)
        self.assertTrue(all(deal[0] == deal[1] for deal in ahead + again))


class LeadHoldsTest(unittest.TestCase):
    def test_rounds_that_keep_it(self):
        for lead in range(7):
            for value in (((), AGAIN), (AGAIN, AGAIN), ((), AGAIN * 2), (AGAIN[:2], AGAIN[2:] + AGAIN[:2])):
                self.assertIs(lead_holds(THREES, (0, 1), 0, 1, lead, value), lead >= 3)
                self.assertIs(lead_holds(THREES, (0, 2), 0, 1, lead, value), lead >= 6)
                self.assertIs(lead_holds(THREES, (0, 3), 0, 1, lead, value), False)
                self.assertIs(lead_holds(THREES, (4, 4), 0, 1, lead, value), True)
                self.assertIs(lead_holds(THREES, (0, 9), 1, 1, lead, value), True)

    def test_sums_in_again_that_are_not_equal(self):
        self.assertIs(lead_holds(FREE, (0, 1), 0, 1, 6, ((), ((1, 0),))), False)
        self.assertIs(lead_holds(FREE, (0, 1), 0, 1, 6, (((0, 1),), ((1, 0),))), False)
        self.assertIs(lead_holds(FREE, (0, 1), 0, 1, 6, ((), ((1, 0), (1, 1), (1, 0), (0, 1)))), False)
        self.assertIs(lead_holds(FREE, (0, 1), 0, 1, 6, ((), ((1, 0), (0, 1)))), True)
        self.assertIs(lead_holds(FREE, (3, 3), 0, 1, 6, ((), ((1, 0),))), True)

    def test_the_lead_in_all_beginnings(self):
        # Ahead and again end even, but on the way there they part by two, to either side.
        apart = ((1, 0), (1, 0), (0, 1), (0, 1))
        even = ((1, 1),)
        for value in ((apart, even), ((), apart), (even, apart), (apart[:2], apart[2:] + apart[:2]), (apart[::-1], even)):
            for lead in range(7):
                self.assertIs(lead_holds(FREE, (0, 1), 0, 1, lead, value), lead >= 2)
                self.assertIs(lead_holds(FREE, (0, 3), 0, 1, lead, value), lead >= 6)
                self.assertIs(lead_holds(FREE, (0, 3), 1, 0, lead, value), lead >= 6)

    def test_ahead_alone_may_part(self):
        for value in ((((1, 0),), even) for even in (((1, 1),), ((0, 0),), ((1, 0), (0, 1)))):
            for lead in range(7):
                right = lead >= (1 if len(value[1]) == 1 else 2)
                self.assertIs(lead_holds(FREE, (0, 1), 0, 1, lead, value), right)

    def test_no_rounds(self):
        for value in ((AGAIN, ()), ((), ()), ((), AGAIN[:5]), ((), AGAIN[1:]), (AGAIN[:1], AGAIN), (AGAIN,), AGAIN, ()):
            self.assertIs(lead_holds(THREES, (0, 1), 0, 1, 6, value), False)
        # The sums are equal, and the states are not.
        task = Task((open_machine(2, 2), open_machine(2, 2)), ((),))
        self.assertIs(lead_holds(task, (0, 1), 0, 1, 6, ((), ((1, 1),))), False)
        self.assertIs(lead_holds(task, (0, 1), 0, 1, 6, ((), ((1, 1), (1, 1)))), True)

    def test_leads_that_are_none(self):
        for lead in (-1, 7, 8, 10 ** 11, True, None, "3", (3,), [3]) + tuple(odd_values()):
            self.assertIs(lead_holds(THREES, (0, 1), 0, 1, lead, ((), AGAIN)), False)
        for lead in (False, True, None):
            self.assertIs(lead_holds(THREES, (0, 0), 0, 1, lead, ((), AGAIN)), False)
        self.assertIs(lead_holds(THREES, (0, 0), 0, 1, 0, ((), AGAIN)), True)

    def test_loads_and_people_that_are_none(self):
        for value in NO_LOADS + tuple(odd_values()):
            self.assertIs(lead_holds(THREES, value, 0, 1, 6, ((), AGAIN)), False)
        for value in NO_PEOPLE + tuple(odd_values()):
            self.assertIs(lead_holds(THREES, (0, 1), value, 1, 6, ((), AGAIN)), False)
            self.assertIs(lead_holds(THREES, (0, 1), 0, value, 6, ((), AGAIN)), False)

    def test_any_value(self):
        for value in odd_values() + [[(), AGAIN], ((), list(AGAIN)), ([], AGAIN), ((), AGAIN, ())]:
            self.assertIs(lead_holds(THREES, (0, 1), 0, 1, 6, value), False)
            self.assertIs(lead_holds(THREES, (0, 1), 0, 1, 6, (value, AGAIN)), value == ())
            self.assertIs(lead_holds(THREES, (0, 1), 0, 1, 6, ((), value)), False)

    def test_changed_at_one_place(self):
        for task, loads, p, q in cases(42, 25):
            lead = least_lead(task, loads, p, q)
            if lead is not None:
                for value in changed(lead_round(task, loads, p, q)):
                    self.assertIs(lead_holds(task, loads, p, q, lead, value), reckon.lead(task, loads, p, q, lead, value))

    def test_other_rounds_of_the_task(self):
        for task, loads, p, q in cases(43, 25):
            for again in [again for days in (1, 2, 3) for again in reckon.rotas(task, days)[:40]]:
                if round_holds(task, ((), again)):
                    for lead in (0, 1, 3, 6):
                        right = reckon.lead(task, loads, p, q, lead, ((), again))
                        self.assertIs(lead_holds(task, loads, p, q, lead, ((), again)), right)

    def test_tuples_of_their_own(self):
        self.assertIs(lead_holds(THREES, Tuple((0, 1)), 0, 1, 3, Tuple([Tuple(), Tuple(AGAIN)])), True)

    def test_long_rounds(self):
        self.assertIs(lead_holds(THREES, (0, 2), 0, 1, 6, (AGAIN * 1000, AGAIN * 1500)), True)
        self.assertIs(lead_holds(THREES, (0, 2), 0, 1, 5, (AGAIN * 1000, AGAIN * 1500)), False)

    def test_by_name(self):
        self.assertIs(lead_holds(task=THREES, loads=(0, 1), p=0, q=1, lead=3, value=((), AGAIN)), True)


if __name__ == "__main__":
    unittest.main()
