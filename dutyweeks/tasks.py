"""Tasks of machines and wants, and cases of rules and wants, from which tasks are made."""

from dutyweeks.checks import is_between, is_tuple, plain
from dutyweeks.errors import InvalidMachines, InvalidNumber, InvalidRow, InvalidRules, InvalidWants, TooLarge
from dutyweeks.machines import Machine, check_letters, is_row
from dutyweeks.rules import is_rules, machine_of
from dutyweeks.wants import is_wants, meets

MOST_PEOPLE = 3
MOST_PRODUCT = 64


class Task:
    """A machine for each person, and the wants of each weekday."""

    def __init__(self, machines, wants):
        if not _are_machines(machines):
            raise InvalidMachines(machines)
        if not is_wants(wants, len(machines), machines[0].letters):
            raise InvalidWants(wants)
        self.machines = tuple(machines)
        self.wants = plain(wants)

    def __eq__(self, other):
        return isinstance(other, Task) and self.machines == other.machines and self.wants == other.wants


class Case:
    """Rules for each person, and the wants of each weekday, with the task that they make."""

    def __init__(self, letters, rules, wants):
        check_letters(letters)
        if not is_tuple(rules, 1, MOST_PEOPLE) or not all([is_rules(some, letters) for some in rules]):
            raise InvalidRules(rules)
        if not is_wants(wants, len(rules), letters):
            raise InvalidWants(wants)
        machines = tuple([machine_of(some, letters) for some in rules])
        if _product(machines) > MOST_PRODUCT:
            raise TooLarge(_product(machines))
        self.letters = letters
        self.rules = plain(rules)
        self.wants = plain(wants)
        self.task = Task(machines, wants)

    def __eq__(self, other):
        if not isinstance(other, Case):
            return False
        return self.letters == other.letters and self.rules == other.rules and self.wants == other.wants


def fits(task, weekday, deal):
    """Whether the deal meets all wants of the weekday."""
    if not is_between(weekday, 0, len(task.wants) - 1):
        raise InvalidNumber(weekday)
    if not is_deal(task, deal):
        raise InvalidRow(deal)
    return all([meets(want, deal) for want in task.wants[weekday]])


def is_deal(task, value):
    """Whether value is a tuple of a letter for each person of the task."""
    return is_row(value, task.machines[0].letters) and len(value) == len(task.machines)


def _are_machines(value):
    """Whether value is machines that a task may have."""
    if not is_tuple(value, 1, MOST_PEOPLE) or not all([isinstance(machine, Machine) for machine in value]):
        return False
    same = all([machine.letters == value[0].letters for machine in value])
    return same and _product(value) <= MOST_PRODUCT


def _product(machines):
    """The numbers of states of the machines, multiplied."""
    many = 1
    for machine in machines:
        many = many * len(machine)
    return many
