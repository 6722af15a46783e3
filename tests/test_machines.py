"""[5] to [7]: rows, machines, least machines, and the rows in which two of them part."""

import itertools
import unittest

from dutyweeks.errors import InvalidNumber, InvalidRow, InvalidTable, Undefined
from dutyweeks.machines import Machine, is_row, least, parting_row, same_rows
from tests.samples import Tuple, is_plain, odd_values, open_machine, own_objects, rows_up_to


def lets(machine, row):
    return machine.after(row) != -1


def all_machines(letters, states):
    """Each machine of so many letters and states."""
    rows = list(itertools.product(range(-1, states), repeat=letters))
    return [Machine(letters, table) for table in itertools.product(rows, repeat=states)]


def spread_machines(letters, states, many):
    """Some machines of so many letters and states, spread by a plain row of numbers."""
    found = []
    seed = 7 + 31 * letters + states
    for _ in range(many):
        table = []
        for _ in range(states):
            row = []
            for _ in range(letters):
                seed = (seed * 1103515245 + 12345) % 2 ** 31
                row.append((seed >> 12) % (states + 1) - 1)
            table.append(tuple(row))
        found.append(Machine(letters, tuple(table)))
    return found


def first_come_order(machine):
    """The states in the order in which they first come."""
    order = [0]
    for at in range(len(machine)):
        if at < len(order):
            for state in machine.table[order[at]]:
                if state != -1 and state not in order:
                    order.append(state)
    return order


class RowTest(unittest.TestCase):
    def test_rows(self):
        for letters in (1, 2, 3):
            self.assertIs(is_row((), letters), True)
            self.assertIs(is_row((letters - 1, 0), letters), True)
            self.assertIs(is_row((letters,), letters), False)
            self.assertIs(is_row((0, -1), letters), False)
        self.assertIs(is_row((0, 1, 2) * 3000, 3), True)
        self.assertIs(is_row((0, 1) * 3000 + (2,), 2), False)

    def test_rows_have_integers_in_tuples(self):
        for value in odd_values():
            self.assertIs(is_row(value, 3), False)
        self.assertIs(is_row((0, True), 2), False)
        self.assertIs(is_row((False, 1), 2), False)
        self.assertIs(is_row([0, 1], 2), False)

    def test_by_name(self):
        self.assertIs(is_row(value=(0, 1), letters=2), True)


class MachineTest(unittest.TestCase):
    def test_attributes_and_len(self):
        machine = Machine(2, ((1, -1), (0, 1)))
        self.assertEqual(machine.letters, 2)
        self.assertEqual(machine.table, ((1, -1), (0, 1)))
        self.assertEqual(len(machine), 2)
        self.assertEqual(len(Machine(1, ((0,),))), 1)

    def test_by_name(self):
        machine = Machine(letters=1, table=((0,),))
        self.assertEqual(machine, Machine(1, ((0,),)))
        self.assertEqual(machine.after(row=(0, 0)), 0)

    def test_letters(self):
        for letters in (1, 2, 3):
            self.assertEqual(Machine(letters, ((-1,) * letters,)).letters, letters)
        for letters in [0, 4, -1] + odd_values():
            with self.assertRaises(InvalidNumber) as caught:
                Machine(letters, ((0,),))
            self.assertIs(caught.exception.value, letters)

    def test_number_of_states(self):
        for states in (1, 12):
            self.assertEqual(len(Machine(2, ((0, states - 1),) * states)), states)
        for table in ((), ((0, 0),) * 13, ((0, 0),) * 10000):
            with self.assertRaises(InvalidTable) as caught:
                Machine(2, table)
            self.assertIs(caught.exception.value, table)

    def test_rows_of_the_table(self):
        tables = [
            ((0,),), ((0, 0, 0),), ((),), ((0, 0), (0,)), ((0, 0), (0, 0, 0)), ((0, 1),), ((0, 0), (0, 2)), ((0, -2),),
            ((-2, 0),), ((0, True),), ((False, 0),), ((0, None),), ((0, "0"),), ((0, 0), [0, 0]), [(0, 0)], ([0, 0],),
            (0, 0), ((0, (0,)),), ((0, 0), None), "ab", {0: (0, 0)},
        ]
        for table in tables + odd_values():
            with self.assertRaises(InvalidTable) as caught:
                Machine(2, table)
            self.assertIs(caught.exception.value, table)

    def test_letters_are_looked_at_first(self):
        for letters in (0, 4, True, None):
            with self.assertRaises(InvalidNumber):
                Machine(letters, ())

    def test_tables_are_plain_tuples(self):
        machine = Machine(2, Tuple([Tuple([0, 1]), (1, -1)]))
        self.assertEqual(machine.table, ((0, 1), (1, -1)))
        self.assertTrue(is_plain(machine.table))

    def test_after(self):
        machine = Machine(3, ((1, 0, -1), (2, -1, 0), (2, 2, 1)))
        self.assertEqual(machine.after(()), 0)
        self.assertEqual(machine.after((0,)), 1)
        self.assertEqual(machine.after((1, 1, 1)), 0)
        self.assertEqual(machine.after((0, 0, 2, 2)), 0)
        self.assertEqual(machine.after((0, 0) + (0, 1) * 4000), 2)

    def test_after_with_barred_letters(self):
        machine = Machine(2, ((-1, 1), (0, -1), (1, 1)))
        self.assertEqual(machine.after((0,)), -1)
        self.assertEqual(machine.after((1, 1)), -1)
        self.assertEqual(machine.after((1, 1, 1)), -1)
        self.assertEqual(machine.after((0, 0, 1)), -1)
        self.assertEqual(machine.after((1, 0, 1)), 1)

    def test_after_wants_a_row(self):
        machine = Machine(2, ((0, -1),))
        for row in [(2,), (0, 2), (1, 2), (0, -1), (0, True), [0, 1], [], (1,) * 4000 + (2,)] + odd_values():
            with self.assertRaises(InvalidRow) as caught:
                machine.after(row)
            self.assertIs(caught.exception.value, row)

    def test_equal_if_both_attributes_are(self):
        machine = Machine(2, ((0, -1), (1, 0)))
        self.assertTrue(machine == Machine(2, ((0, -1), (1, 0))))
        self.assertFalse(machine != Machine(2, ((0, -1), (1, 0))))
        self.assertFalse(machine == Machine(2, ((0, -1), (1, 1))))
        self.assertFalse(machine == Machine(2, ((0, -1),)))
        self.assertFalse(Machine(1, ((0,),)) == Machine(2, ((0, 0),)))

    def test_equal_to_nothing_else(self):
        machine = open_machine(2, 2)
        for other in odd_values() + own_objects() + [machine.table, (2, machine.table), 2]:
            self.assertIs(machine == other, False)
            self.assertIs(machine != other, True)

    def test_not_iterable(self):
        with self.assertRaises(TypeError):
            iter(Machine(1, ((0,),)))
        with self.assertRaises(TypeError):
            list(Machine(1, ((0,),)))


class LeastTest(unittest.TestCase):
    def test_unreached_states_are_left_out(self):
        self.assertEqual(least(Machine(2, ((0, -1), (0, 1)))), Machine(2, ((0, -1),)))
        self.assertEqual(least(Machine(1, ((2,), (1,), (-1,)))), Machine(1, ((1,), (-1,))))

    def test_states_that_let_the_same_are_one(self):
        self.assertEqual(least(open_machine(3, 12)), open_machine(3))
        self.assertEqual(least(Machine(2, ((1, 2), (-1, 1), (-1, 2)))), Machine(2, ((1, 1), (-1, 1))))
        self.assertEqual(least(Machine(1, ((1,), (2,), (-1,)))), Machine(1, ((1,), (2,), (-1,))))

    def test_states_are_numbered_as_they_first_come(self):
        machine = Machine(2, ((3, 2), (-1, 0), (1, 0), (0, 1)))
        self.assertEqual(least(machine), Machine(2, ((1, 2), (0, 3), (3, 0), (-1, 0))))
        chain = Machine(1, ((11,), (-1,)) + tuple((state - 1,) for state in range(2, 12)))
        self.assertEqual(least(chain), Machine(1, tuple((state,) for state in range(1, 12)) + ((-1,),)))

    def test_state_0_of_all_barred_letters_stays(self):
        self.assertEqual(least(Machine(3, ((-1, -1, -1), (0, 1, 2), (0, 0, 0)))), Machine(3, ((-1, -1, -1),)))

    def test_by_name_and_kind(self):
        found = least(machine=open_machine(2, 3))
        self.assertIs(type(found), Machine)
        self.assertTrue(is_plain(found.table))

    def test_argument_is_not_changed(self):
        machine = Machine(2, ((1, 1), (0, 0)))
        least(machine)
        self.assertEqual(machine, Machine(2, ((1, 1), (0, 0))))

    def look(self, machine, days):
        """Look at the least machine by all rows of at most so many days behind each state."""
        found = least(machine)
        rows = rows_up_to(machine.letters, days)
        for row in rows:
            self.assertEqual(lets(machine, row), lets(found, row))
        self.assertEqual(first_come_order(found), list(range(len(found))))
        self.assertEqual(least(found), found)
        behind = [Machine(found.letters, self.begun_at(found.table, state)) for state in range(len(found))]
        for one, other in itertools.combinations(behind, 2):
            self.assertTrue(any(lets(one, row) != lets(other, row) for row in rows))

    def begun_at(self, table, state):
        """The table with this state and state 0 in each other's place."""
        swap = {0: state, state: 0}
        turned = [tuple(swap.get(to, to) for to in row) for row in table]
        turned[0], turned[state] = turned[state], turned[0]
        return tuple(turned)

    def test_all_small_machines(self):
        for machine in all_machines(1, 3) + all_machines(2, 2) + all_machines(3, 1):
            self.look(machine, 3)

    def test_larger_machines(self):
        for machine in spread_machines(2, 5, 60) + spread_machines(3, 4, 30) + spread_machines(1, 12, 30):
            self.look(machine, len(machine) if machine.letters < 3 else 4)


class PartingTest(unittest.TestCase):
    def test_same_rows_both_ways(self):
        one = Machine(2, ((0, 1), (0, -1)))
        other = Machine(2, ((2, 1), (2, -1), (0, 1)))
        self.assertIs(same_rows(one, other), True)
        self.assertIs(same_rows(other, one), True)
        self.assertIs(same_rows(one, Machine(2, ((0, 1), (0, 0)))), False)
        self.assertIs(same_rows(Machine(2, ((0, 1), (0, 0))), one), False)

    def test_letters_must_be_as_many(self):
        for one, other in itertools.permutations([open_machine(1), open_machine(2), open_machine(3)], 2):
            for function in (same_rows, parting_row):
                with self.assertRaises(Undefined) as caught:
                    function(one, other)
                self.assertEqual(caught.exception.what, "letters")

    def test_no_parting_row_of_the_same_rows(self):
        for one, other in ((open_machine(2), open_machine(2, 5)), (open_machine(3), open_machine(3))):
            with self.assertRaises(Undefined) as caught:
                parting_row(one, other)
            self.assertEqual(caught.exception.what, "same")

    def test_parting_row_is_the_shortest(self):
        never_twice = Machine(2, ((0, 1), (0, -1)))
        never_thrice = Machine(2, ((0, 1), (0, 2), (0, -1)))
        self.assertEqual(parting_row(never_twice, never_thrice), (1, 1))
        self.assertEqual(parting_row(never_thrice, never_twice), (1, 1))
        self.assertEqual(parting_row(open_machine(2), never_thrice), (1, 1, 1))
        self.assertEqual(parting_row(open_machine(1), Machine(1, ((-1,),))), (0,))

    def test_of_several_the_first_in_dictionary_order(self):
        none = Machine(3, ((-1, -1, -1),))
        self.assertEqual(parting_row(none, open_machine(3)), (0,))
        self.assertEqual(parting_row(Machine(3, ((0, -1, -1),)), open_machine(3)), (1,))
        one = Machine(2, ((1, 2), (0, -1), (-1, 0)))
        self.assertEqual(parting_row(one, open_machine(2)), (0, 1))
        # A letter that comes later leads to the states first: the row counts, not the numbers of the states.
        self.assertEqual(parting_row(Machine(2, ((2, 1), (-1, 0), (0, -1))), open_machine(2)), (0, 1))

    def test_parting_row_may_be_long(self):
        long = tuple((state,) for state in range(1, 12)) + ((-1,),)
        self.assertEqual(parting_row(Machine(1, long), open_machine(1)), (0,) * 12)
        one = Machine(1, long[:10] + ((11,), (0,)))
        self.assertIs(same_rows(one, open_machine(1, 11)), True)

    def test_by_name_and_kind(self):
        one, other = Machine(2, ((0, -1),)), open_machine(2)
        self.assertEqual(parting_row(one=one, other=other), (1,))
        self.assertIs(same_rows(one=one, other=other), False)
        self.assertTrue(is_plain(parting_row(one, other)))

    def look(self, one, other, days):
        """Compare with all rows of at most so many days."""
        parting = [row for row in rows_up_to(one.letters, days) if lets(one, row) != lets(other, row)]
        self.assertEqual(same_rows(one, other), not parting)
        self.assertEqual(least(one) == least(other), not parting)
        if parting:
            self.assertEqual(parting_row(one, other), parting[0])
        else:
            with self.assertRaises(Undefined):
                parting_row(one, other)

    def test_all_pairs_of_small_machines(self):
        machines = all_machines(2, 1) + all_machines(2, 2)
        for one in machines:
            for other in machines:
                self.look(one, other, 3)

    def test_pairs_of_larger_machines(self):
        machines = spread_machines(2, 3, 25) + spread_machines(2, 4, 10)
        for one, other in itertools.combinations(machines, 2):
            self.look(one, other, 6)


if __name__ == "__main__":
    unittest.main()
