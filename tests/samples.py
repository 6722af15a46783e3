"""Values and plain reckonings that several tests share."""

from dutyweeks.errors import InvalidNumber
from dutyweeks.machines import Machine
from dutyweeks.tasks import Case, Task


class Tuple(tuple):
    """A tuple of a class of its own."""


def nested(deep, make=tuple):
    value = make([])
    for _ in range(deep):
        value = make([value])
    return value


def open_machine(letters, states=1):
    """A machine of so many states that lets all rows."""
    return Machine(letters, tuple(((state + 1) % states,) * letters for state in range(states)))


def own_objects():
    machine = open_machine(2)
    return [machine, Task((machine,), ((),)), Case(2, ((),), ((),)), InvalidNumber(3)]


def odd_values():
    """Values of many kinds that are no number, row, table, rules, machines or wants."""
    return [
        None, True, False, "", "never", "a" * 4000, [], [0], [[0]], (None,), (True,), (False,), ("0",), ([],), ((None,),),
        -1, -2, 10 ** 12 - 1, 1 - 10 ** 12,
        nested(60), nested(60, list), (0,) * 29999 + (None,), [0] * 30000, ((),) * 29999 + (None,), (nested(59), 1),
    ] + own_objects()


def all_rows(letters, days):
    """All rows of so many days, in dictionary order."""
    if days == 0:
        return [()]
    return [row + (letter,) for row in all_rows(letters, days - 1) for letter in range(letters)]


def rows_up_to(letters, days):
    """All rows of at most so many days, the shorter ones first."""
    return [row for many in range(days + 1) for row in all_rows(letters, many)]


def is_plain(value):
    """Whether each tuple in the value, itself too, is of no class of its own."""
    if isinstance(value, tuple):
        return type(value) is tuple and all(is_plain(x) for x in value)
    return True


def changed(value):
    """The value changed at one place: cut off, lengthened, or with another value there."""
    if isinstance(value, tuple):
        yield from (value[:-1], value[1:], value + value, value + value[-1:], value + (None,), list(value), None)
        for k, member in enumerate(value):
            yield value[:k] + value[k + 1:]
            yield value[:k] + (member,) + value[k:]
            if k:
                yield value[:k - 1] + (member, value[k - 1]) + value[k + 1:]
            for other in changed(member):
                yield value[:k] + (other,) + value[k + 1:]
    elif type(value) is int:
        yield from (value + 1, value - 1, bool(value), None, str(value), (value,), [value], value + 10 ** 11)
    else:
        yield from (None, 0, (value,))


def own(value):
    """The value with each tuple in it, itself too, of a class of its own."""
    return Tuple([own(x) for x in value]) if isinstance(value, tuple) else value


# Cases that end behind many days: how many, and the case.
LONG_CASES = [
    (25, Case(2, (
        (("every", 0, 4), ("never", (1, 0, 0)), ("least", 1, 2)),
        (("least", 1, 2), ("most", 1, 2), ("every", 1, 4), ("least", 0, 2))),
        ((), ((1, (0, 1), 1, 1), (1, (1,), 0, 1), (1, (0, 1), 1, 2)), ()))),
    (27, Case(2, (
        (("never", (0, 0)),), (("most", 0, 2), ("never", (1, 1)), ("least", 0, 2)),
        (("never", (1, 1, 0)), ("least", 0, 2), ("every", 1, 4), ("least", 0, 2))),
        (((1, (0,), 1, 1),), ((1, (1,), 0, 1), (1, (0, 2), 1, 2), (1, (0,), 1, 1)),
         ((0, (0,), 1, 1), (1, (2,), 0, 1), (1, (1, 2), 0, 2)), ((0, (0, 1, 2), 1, 1), (1, (0,), 1, 1))))),
    (29, Case(2, (
        (("least", 0, 3), ("most", 0, 3), ("least", 1, 2), ("never", (1, 1, 1))), (("least", 1, 3), ("most", 1, 3))),
        ((), ((1, (0, 1), 1, 1),), (), ((1, (1,), 1, 1),)))),
    (23, Case(2, (
        (("every", 1, 2), ("every", 0, 2)), (("most", 0, 3), ("most", 1, 2), ("least", 0, 3), ("least", 1, 2))),
        ((), ((0, (0,), 0, 1),), ((0, (0, 1), 1, 2), (1, (1,), 0, 1), (1, (0,), 0, 1))))),
]
