"""[9]: wants, tasks and cases."""

import unittest

from dutyweeks.errors import InvalidMachines, InvalidNumber, InvalidRow, InvalidRules, InvalidWants, TooLarge
from dutyweeks.machines import Machine
from dutyweeks.rules import machine_of
from dutyweeks.tasks import Case, Task, fits
from tests.samples import Tuple, all_rows, is_plain, odd_values, open_machine, own_objects

WANT = (1, (0, 1), 1, 2)

# For two people and two letters.
ODD_WANTS = [
    (1, (0,), 0), (1, (0,), 0, 1, 1), (2, (0,), 0, 1), (-1, (0,), 0, 1), (True, (0,), 0, 1), (None, (0,), 0, 1),
    ("1", (0,), 0, 1), (1, (), 0, 1), (1, (2,), 0, 1), (1, (0, 2), 0, 1), (1, (-1, 0), 0, 1), (1, (1, 0), 0, 1),
    (1, (0, 0), 0, 1), (1, (0, 1, 1), 0, 1), (1, (0, True), 0, 1), (1, (False,), 0, 1), (1, [0], 0, 1), (1, 0, 0, 1),
    (1, None, 0, 1), (1, ((0,),), 0, 1), (1, (0, 1) * 15000, 0, 1), (1, (0,), -1, 1), (1, (0,), 3, 1), (1, (0,), 0, 3),
    (1, (0,), 0, -1), (1, (0,), True, 1), (1, (0,), 0, True), (1, (0,), None, 1), (1, (0,), 0, None), (1, (0,), "0", 1),
    [1, (0,), 0, 1], "want", (),
]


def odd_wants():
    """Values that are no wants for two people and two letters."""
    wrong = [((want,),) for want in ODD_WANTS] + [((WANT, want),) for want in ODD_WANTS]
    wrong += [((), (want,)) for want in ODD_WANTS] + [((want,),) for want in odd_values()]
    wrong += [(), ((),) * 5, ((),) * 10000, ((WANT,) * 4,), ((WANT,), (WANT,) * 4), [()], ([],), ([WANT],), (WANT,), WANT]
    return wrong + odd_values()


def right_wants():
    """Wants for two people and two letters."""
    wants = [((),) * weekdays for weekdays in (1, 2, 3, 4)] + [((WANT,) * many,) for many in (1, 2, 3)]
    bounds = (((0, (0,), 0, 0),), ((1, (1,), 2, 2),), ((0, (0, 1), 2, 1),), ((1, (0, 1), 0, 2),))
    return wants + [bounds[:1], bounds, ((WANT,) * 3,) * 4]


def machines_of_states(sizes):
    return tuple(open_machine(2, size) for size in sizes)


class TaskTest(unittest.TestCase):
    def test_attributes(self):
        machines = (open_machine(2, 2), open_machine(2, 3))
        task = Task(machines, ((WANT,), ()))
        self.assertEqual(task.machines, machines)
        self.assertIs(task.machines[1], machines[1])
        self.assertEqual(task.wants, ((WANT,), ()))

    def test_by_name(self):
        machine = open_machine(2)
        self.assertEqual(Task(machines=(machine,), wants=((),)), Task((machine,), ((),)))

    def test_one_to_three_machines(self):
        machine = open_machine(2)
        for many in (1, 2, 3):
            self.assertEqual(len(Task((machine,) * many, ((),)).machines), many)
        for machines in ((), (machine,) * 4, (machine,) * 10000):
            with self.assertRaises(InvalidMachines) as caught:
                Task(machines, ((),))
            self.assertIs(caught.exception.value, machines)

    def test_machines_of_the_same_letters(self):
        for machines in ((open_machine(1), open_machine(2)), (open_machine(3), open_machine(3), open_machine(2))):
            with self.assertRaises(InvalidMachines):
                Task(machines, ((),))

    def test_machines_are_machines_in_a_tuple(self):
        machine = open_machine(2, 2)
        task = Task((machine,), ((),))
        wrong = [machine, [machine], (machine, None), (machine.table,), (task,), (machine, [machine]), ((machine,),)]
        for machines in wrong + odd_values():
            with self.assertRaises(InvalidMachines) as caught:
                Task(machines, None)
            self.assertIs(caught.exception.value, machines)

    def test_states_multiplied(self):
        for sizes in ((12,), (8, 8), (4, 4, 4), (12, 5, 1), (2, 3, 10)):
            self.assertEqual(Task(machines_of_states(sizes), ((),)).machines, machines_of_states(sizes))
        for sizes in ((6, 11), (12, 6), (4, 4, 5), (2, 3, 11), (12, 12, 12)):
            with self.assertRaises(InvalidMachines) as caught:
                Task(machines_of_states(sizes), ((),))
            self.assertEqual(caught.exception.value, machines_of_states(sizes))

    def test_right_wants(self):
        machines = (open_machine(2),) * 2
        for wants in right_wants():
            self.assertEqual(Task(machines, wants).wants, wants)

    def test_wrong_wants(self):
        machines = (open_machine(2),) * 2
        for wants in odd_wants():
            with self.assertRaises(InvalidWants) as caught:
                Task(machines, wants)
            self.assertIs(caught.exception.value, wants)

    def test_wants_are_for_as_many_people_and_letters(self):
        one, two, three = [(open_machine(letters),) for letters in (1, 2, 3)]
        self.assertEqual(Task(three, (((2, (0,), 1, 1),),)).wants, (((2, (0,), 1, 1),),))
        self.assertEqual(Task(two * 3, (((1, (0, 1, 2), 3, 3),),)).wants, (((1, (0, 1, 2), 3, 3),),))
        for machines, want in ((one, (1, (0,), 0, 1)), (two, (2, (0,), 0, 1)), (two, (1, (0,), 2, 1)),
                               (two, (1, (0, 1), 0, 1)), (two * 2, (1, (0, 1, 2), 0, 1)), (two * 2, (1, (0,), 0, 3))):
            with self.assertRaises(InvalidWants):
                Task(machines, ((want,),))

    def test_machines_are_looked_at_first(self):
        with self.assertRaises(InvalidMachines):
            Task((open_machine(2, 12),) * 2, None)

    def test_equal_if_both_attributes_are(self):
        one, two = open_machine(2), open_machine(2, 2)
        task = Task((one, two), ((WANT,), ()))
        self.assertTrue(task == Task((open_machine(2), open_machine(2, 2)), ((WANT,), ())))
        self.assertFalse(task != Task((one, two), ((WANT,), ())))
        for other in (Task((two, one), ((WANT,), ())), Task((one, two), ((), (WANT,))), Task((one, two), ((WANT,),))):
            self.assertFalse(task == other)
        for other in odd_values() + own_objects() + [task.machines, (task.machines, task.wants)]:
            self.assertIs(task == other, False)
            self.assertIs(task != other, True)

    def test_plain_and_not_iterable(self):
        machine = open_machine(2)
        task = Task(Tuple([machine, machine]), Tuple([Tuple([Tuple([1, Tuple([0, 1]), 1, 2])]), Tuple()]))
        self.assertEqual(task, Task((machine, machine), ((WANT,), ())))
        self.assertIs(type(task.machines), tuple)
        self.assertTrue(is_plain(task.wants))
        with self.assertRaises(TypeError):
            iter(task)


class FitsTest(unittest.TestCase):
    def setUp(self):
        self.task = Task((open_machine(3),) * 3, (((1, (0, 1, 2), 1, 2), (2, (0, 2), 0, 1)), (), ((0, (1,), 1, 0),)))

    def test_each_deal(self):
        for deal in all_rows(3, 3):
            right = 1 <= deal.count(1) <= 2 and [deal[0], deal[2]].count(2) <= 1
            self.assertIs(fits(self.task, 0, deal), right)
            self.assertIs(fits(self.task, 1, deal), True)
            self.assertIs(fits(self.task, 2, deal), False)

    def test_bounds_of_a_want(self):
        for low in range(4):
            for high in range(4):
                task = Task((open_machine(2),) * 3, (((1, (0, 1, 2), low, high),),))
                for deal in all_rows(2, 3):
                    self.assertIs(fits(task, 0, deal), low <= sum(deal) <= high)

    def test_machines_do_not_matter(self):
        task = Task((Machine(2, ((-1, -1),)),), (((1, (0,), 1, 1),),))
        self.assertIs(fits(task, 0, (1,)), True)
        self.assertIs(fits(task, 0, (0,)), False)

    def test_errors_in_their_order(self):
        for weekday in [3, 10 ** 11] + odd_values():
            with self.assertRaises(InvalidNumber) as caught:
                fits(self.task, weekday, None)
            self.assertIs(caught.exception.value, weekday)
        for deal in [(), (0, 0), (0,) * 4, (0, 0, 3), (-1, 0, 0), (0, 0, True), [0, 0, 0], "000"] + odd_values():
            with self.assertRaises(InvalidRow) as caught:
                fits(self.task, 1, deal)
            self.assertIs(caught.exception.value, deal)

    def test_by_name(self):
        self.assertIs(fits(task=self.task, weekday=1, deal=(0, 1, 2)), True)


class CaseTest(unittest.TestCase):
    RULES = ((("most", 1, 2), ("never", (1, 0, 1))), ())

    def test_attributes(self):
        case = Case(2, self.RULES, ((WANT,), ()))
        self.assertEqual(case.letters, 2)
        self.assertEqual(case.rules, self.RULES)
        self.assertEqual(case.wants, ((WANT,), ()))
        machines = tuple(machine_of(rules, 2) for rules in self.RULES)
        self.assertEqual(case.task, Task(machines, ((WANT,), ())))
        self.assertIs(type(case.task), Task)

    def test_by_name(self):
        self.assertEqual(Case(letters=1, rules=((),), wants=((),)), Case(1, ((),), ((),)))

    def test_letters(self):
        for letters in (1, 2, 3):
            self.assertEqual(Case(letters, ((),), ((),)).task.machines, (open_machine(letters),))
        for letters in [0, 4] + odd_values():
            with self.assertRaises(InvalidNumber) as caught:
                Case(letters, None, None)
            self.assertIs(caught.exception.value, letters)

    def test_rules_of_one_to_three_people(self):
        rule = ("every", 0, 2)
        for many in (1, 2, 3):
            self.assertEqual(len(Case(2, ((rule,) * 4,) * many, ((),)).task.machines), many)
        wrong = [(), ((),) * 4, ((),) * 10000, ((rule,) * 5,), ((), (rule,) * 5), (rule,), rule, [()], ([],), ([rule],)]
        wrong += [((("most", 2, 1),),), ((), (("most", 1, 4),)), ((("never", ()),), ()), ((), (), None)]
        for rules in wrong + odd_values():
            with self.assertRaises(InvalidRules) as caught:
                Case(2, rules, None)
            self.assertIs(caught.exception.value, rules)

    def test_right_wants(self):
        for wants in right_wants():
            self.assertEqual(Case(2, ((), ()), wants).wants, wants)

    def test_wrong_wants(self):
        for wants in odd_wants():
            with self.assertRaises(InvalidWants) as caught:
                Case(2, ((), ()), wants)
            self.assertIs(caught.exception.value, wants)
        for letters, rules, want in ((1, ((),), (1, (0,), 0, 1)), (2, ((),), (0, (0, 1), 0, 1)), (2, ((),), (0, (0,), 0, 2))):
            with self.assertRaises(InvalidWants):
                Case(letters, rules, ((want,),))

    def test_too_large_machines(self):
        sixteen = (("every", 0, 4), ("every", 1, 4))
        seventeen = (("every", 0, 4), ("most", 0, 2), ("every", 1, 4))
        for rules, many in (((sixteen,), 16), (((), seventeen, sixteen), 17), ((sixteen, seventeen), 16)):
            with self.assertRaises(TooLarge) as caught:
                Case(3, rules, ((),))
            self.assertEqual(caught.exception.many, many)

    def test_too_large_products(self):
        four, seven = (("most", 0, 3),), (("every", 0, 4), ("every", 1, 4), ("never", (2,)))
        twelve = (("every", 0, 3), ("every", 1, 4))
        self.assertEqual([len(machine_of(rules, 3)) for rules in (four, seven, twelve)], [4, 7, 12])
        self.assertEqual(len(Case(3, (four,) * 3, ((),)).task.machines), 3)
        self.assertEqual(len(Case(3, (seven, seven, ()), ((),)).task.machines), 3)
        for rules, many in (((twelve, twelve), 144), ((seven, seven, four), 196), ((seven, (), twelve), 84)):
            with self.assertRaises(TooLarge) as caught:
                Case(3, rules, ((),))
            self.assertEqual(caught.exception.many, many)

    def test_too_large_is_raised_last(self):
        twelve = (("every", 0, 3), ("every", 1, 4))
        sixteen = (("every", 0, 4), ("every", 1, 4))
        for rules in ((twelve, twelve), (sixteen, ())):
            with self.assertRaises(InvalidWants):
                Case(3, rules, ())
            with self.assertRaises(InvalidRules):
                Case(3, rules + (None,), ())
        with self.assertRaises(TooLarge) as caught:
            Case(3, (twelve, twelve, sixteen), ((),))
        self.assertEqual(caught.exception.many, 16)

    def test_equal_if_letters_rules_and_wants_are(self):
        case = Case(2, self.RULES, ((WANT,), ()))
        self.assertTrue(case == Case(2, self.RULES, ((WANT,), ())))
        self.assertFalse(case != Case(2, self.RULES, ((WANT,), ())))
        others = [Case(3, self.RULES, ((WANT,), ())), Case(2, self.RULES[::-1], ((WANT,), ())), Case(2, self.RULES, ((),) * 2)]
        for other in others + odd_values() + own_objects() + [case.task, (2, case.rules, case.wants)]:
            self.assertIs(case == other, False)
            self.assertIs(case != other, True)

    def test_unlike_rules_with_the_same_task_are_unlike(self):
        one, other = Case(2, ((("most", 1, 1),),), ((),)), Case(2, ((("never", (1, 1)),),), ((),))
        self.assertTrue(one.task == other.task)
        self.assertFalse(one == other)

    def test_plain_and_not_iterable(self):
        rules = Tuple([Tuple([Tuple(["most", 1, 2]), Tuple(["never", Tuple([1, 0, 1])])]), Tuple()])
        case = Case(2, rules, Tuple([Tuple([Tuple([1, Tuple([0, 1]), 1, 2])]), Tuple()]))
        self.assertEqual(case, Case(2, self.RULES, ((WANT,), ())))
        self.assertTrue(is_plain(case.rules) and is_plain(case.wants))
        self.assertTrue(is_plain(case.task.wants) and is_plain(case.task.machines))
        with self.assertRaises(TypeError):
            iter(case)


if __name__ == "__main__":
    unittest.main()
