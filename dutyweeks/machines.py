"""Rows of letters, and the machines that let some of them."""

from dutyweeks.checks import is_between, is_tuple
from dutyweeks.errors import InvalidNumber, InvalidRow, InvalidTable, Undefined
from dutyweeks.tables import BARRED, least_table

MOST_LETTERS = 3
MOST_STATES = 12


def is_row(value, letters):
    """Whether value is a row of letters below the number letters."""
    return isinstance(value, tuple) and all([is_between(letter, 0, letters - 1) for letter in value])


def check_letters(letters):
    """Raise InvalidNumber unless letters is a number that letters may have."""
    if not is_between(letters, 1, MOST_LETTERS):
        raise InvalidNumber(letters)


class Machine:
    """States from 0 on, with the state of the next day for each state and letter, or BARRED."""

    def __init__(self, letters, table):
        check_letters(letters)
        if not _is_table(table, letters):
            raise InvalidTable(table)
        self.letters = letters
        self.table = tuple([tuple(row) for row in table])

    def __len__(self):
        return len(self.table)

    def __eq__(self, other):
        return isinstance(other, Machine) and self.letters == other.letters and self.table == other.table

    def after(self, row):
        """The state behind the row, from state 0 on, BARRED if a letter is barred on the way."""
        if not is_row(row, self.letters):
            raise InvalidRow(row)
        state = 0
        for letter in row:
            state = self.table[state][letter]
            if state == BARRED:
                return BARRED
        return state


def _is_table(value, letters):
    """Whether value is the table of a machine of so many letters."""
    return is_tuple(value, 1, MOST_STATES) and all([_is_table_row(row, letters, len(value)) for row in value])


def _is_table_row(value, letters, states):
    """Whether value has for each letter one of so many states or BARRED."""
    return is_tuple(value, letters, letters) and all([is_between(state, BARRED, states - 1) for state in value])


def least(machine):
    """The machine of the fewest states that lets the same rows, numbered in the order in which they first come."""
    return Machine(machine.letters, least_table(machine.table))


def same_rows(one, other):
    """Whether two machines of as many letters let the same rows."""
    _check_alike(one, other)
    return least(one) == least(other)


def parting_row(one, other):
    """The shortest row that just one of the machines lets, of several the first in dictionary order."""
    _check_alike(one, other)
    row = _parting_row(one, other)
    if row is None:
        raise Undefined("same")
    return row


def _check_alike(one, other):
    if one.letters != other.letters:
        raise Undefined("letters")


def _parting_row(one, other):
    """The parting row, None if there is none.

    The rows of each length are looked at in dictionary order, and only the first one that leads
    to a pair of states goes on: whatever parts the others of that pair parts it too.
    """
    seen = {(0, 0): True}
    ends = [((), 0, 0)]
    while ends:
        longer = []
        for row, here, there in ends:
            for letter in range(one.letters):
                pair = (one.table[here][letter], other.table[there][letter])
                if (pair[0] == BARRED) != (pair[1] == BARRED):
                    return row + (letter,)
                if pair[0] != BARRED and pair not in seen:
                    seen[pair] = True
                    longer.append((row + (letter,), pair[0], pair[1]))
        ends = longer
    return None
