"""Tables of machines, of any number of states: a tuple for each state, of a state or BARRED for each letter."""

BARRED = -1


def least_table(table):
    """The table of the fewest states that lets the same rows, numbered in the order in which they first come."""
    kinds = _kinds(table)
    numbers = {kinds[0]: 0}
    first = [0]
    rows = []
    while len(rows) < len(first):
        row = table[first[len(rows)]]
        for state in row:
            if state != BARRED and kinds[state] not in numbers:
                numbers[kinds[state]] = len(first)
                first.append(state)
        rows.append(tuple([BARRED if state == BARRED else numbers[kinds[state]] for state in row]))
    return tuple(rows)


def _kinds(table):
    """A number for each state, the same for two of them exactly if they let the same rows."""
    kinds = [0] * len(table)
    many = 1
    while True:
        kinds, finer = _finer(table, kinds)
        if finer == many:
            return kinds
        many = finer


def _finer(table, kinds):
    """The kinds that rows of one day more tell apart, and how many these are."""
    numbers = {}
    finer = []
    for row in table:
        sight = tuple([BARRED if state == BARRED else kinds[state] for state in row])
        finer.append(numbers.setdefault(sight, len(numbers)))
    return finer, len(numbers)
