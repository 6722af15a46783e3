"""[8]: rules, the rows that keep them, and their machines. (1): the machine lets just these rows."""

import itertools
import unittest

from dutyweeks.errors import InvalidNumber, InvalidRow, InvalidRules, TooLarge
from dutyweeks.machines import Machine, least
from dutyweeks.rules import is_rules, keeps, machine_of
from tests.samples import Tuple, is_plain, odd_values, rows_up_to

BOUNDS = {"most": (1, 3), "least": (2, 3), "every": (1, 4)}

ODD_RULES = [
    ("never",), ("never", ()), ("never", (0, 0, 0, 0)), ("never", (2,)), ("never", (0, -1)), ("never", (True,)),
    ("never", [0]), ("never", 0), ("never", (0,), 1), ("never", 0, 1), ("never", "0"),
    ("most", 0), ("most", 0, 0), ("most", 0, 4), ("most", 2, 1), ("most", -1, 1), ("most", True, 1), ("most", 0, True),
    ("most", 0, 1, 1), ("most", (0,), 1), ("most", "0", 1), ("most", 0, "1"), ("most", None, 1), ("most", 0, None),
    ("least", 0), ("least", 0, 1), ("least", 0, 4), ("least", 2, 2), ("least", -1, 2), ("least", False, 2),
    ("every", 0), ("every", 0, 0), ("every", 0, 5), ("every", 2, 1), ("every", -1, 1), ("every", 0, True),
    ("always", 0, 1), ("Most", 0, 1), ("", 0, 1), (0, 0, 1), (None, 0, 1), (True, 0, 1), (["most"], 0, 1),
    (("most",), 0, 1), ["most", 0, 1], "most", (), ("most",), (Machine(1, ((0,),)), 0, 1),
]


def all_rules(letters):
    """Each rule for so many letters."""
    never = [("never", pattern) for pattern in rows_up_to(letters, 3) if pattern]
    return never + [
        (kind, letter, k)
        for kind, (low, high) in BOUNDS.items()
        for letter in range(letters)
        for k in range(low, high + 1)
    ]


def windows(row, days):
    return [row[day:day + days] for day in range(len(row) - days + 1)]


def keeps_rule(rule, row):
    """Whether the row keeps the rule, read from the words of [8]."""
    if rule[0] == "never":
        return rule[1] not in windows(row, len(rule[1]))
    kind, letter, k = rule
    stretches = [(own, len(list(days))) for own, days in itertools.groupby(row)]
    if kind == "most":
        return all(many <= k for own, many in stretches if own == letter)
    if kind == "least":
        return all(many >= k for own, many in stretches[:-1] if own == letter)
    return all(letter in window for window in windows(row, k))


def keeps_all(rules, row):
    return all(keeps_rule(rule, row) for rule in rules)


def sights(rules, letters, days, ahead):
    """How many sets of rows can be put behind rows of at most so many days, looked at for so many days ahead."""
    kept = {row for row in rows_up_to(letters, days + ahead) if keeps_all(rules, row)}
    behind = rows_up_to(letters, ahead)
    return len({tuple(row + more in kept for more in behind) for row in rows_up_to(letters, days) if row in kept})


class IsRulesTest(unittest.TestCase):
    def test_each_rule(self):
        for letters in (1, 2, 3):
            for rule in all_rules(letters):
                self.assertIs(is_rules((rule,), letters), True)

    def test_wrong_rules(self):
        for rule in ODD_RULES + odd_values():
            self.assertIs(is_rules((rule,), 2), False, rule)
            self.assertIs(is_rules((("most", 0, 1), rule), 2), False, rule)

    def test_letters_are_those_below(self):
        for letters in (1, 2):
            for rule in (("never", (0, letters)), ("most", letters, 1), ("least", letters, 2), ("every", letters, 1)):
                self.assertIs(is_rules((rule,), letters), False)
                self.assertIs(is_rules((rule,), letters + 1), True)

    def test_at_most_four(self):
        rule = ("every", 0, 4)
        self.assertEqual([many for many in range(8) if is_rules((rule,) * many, 1)], [0, 1, 2, 3, 4])
        self.assertIs(is_rules((rule,) * 10000, 1), False)

    def test_values_of_many_kinds(self):
        for value in odd_values() + [[("most", 0, 1)], ("most", 0, 1), "never"]:
            self.assertIs(is_rules(value, 2), False)

    def test_by_name(self):
        self.assertIs(is_rules(value=(), letters=3), True)


class KeepsTest(unittest.TestCase):
    def check(self, rule, kept, broken):
        for row in kept:
            self.assertIs(keeps((rule,), 2, row), True, row)
        for row in broken:
            self.assertIs(keeps((rule,), 2, row), False, row)

    def test_never(self):
        self.check(("never", (1,)), [(), (0, 0, 0)], [(1,), (0, 1), (1, 0), (0, 1, 0)])
        self.check(("never", (1, 0)), [(), (1,), (0, 1, 1)], [(1, 0), (0, 1, 0), (1, 0, 1)])
        self.check(("never", (1, 0, 1)), [(1, 0), (0, 1), (1, 0, 0, 1)], [(1, 0, 1), (0, 1, 0, 1), (1, 0, 1, 0)])

    def test_most(self):
        self.check(("most", 1, 1), [(), (1,), (1, 0, 1)], [(1, 1), (0, 1, 1), (1, 1, 0)])
        self.check(("most", 1, 2), [(1, 1), (0, 1, 1, 0, 1, 1)], [(1, 1, 1), (0, 1, 1, 1), (1, 1, 1, 0)])
        self.check(("most", 1, 3), [(1, 1, 1), (0, 1, 1, 1, 0)], [(1, 1, 1, 1), (0, 1, 1, 1, 1), (1, 1, 1, 1, 0)])

    def test_least(self):
        self.check(("least", 1, 2), [(), (1,), (1, 1, 0), (0, 1)], [(1, 0), (0, 1, 0), (1, 1, 0, 1, 0)])
        self.check(("least", 1, 3), [(1, 1), (1, 1, 1, 0), (0, 1, 1), (1, 1, 1, 1, 0)], [(1, 1, 0), (0, 1, 1, 0), (1, 0)])

    def test_every(self):
        self.check(("every", 1, 1), [(), (1,), (1, 1)], [(0,), (1, 0), (0, 1)])
        self.check(("every", 1, 2), [(0,), (0, 1, 0), (1, 0, 1)], [(0, 0), (1, 0, 0), (0, 0, 1)])
        self.check(("every", 1, 3), [(0, 0), (0, 0, 1, 0, 0)], [(0, 0, 0), (1, 0, 0, 0), (0, 0, 0, 1)])
        self.check(("every", 1, 4), [(0, 0, 0), (0, 0, 0, 1, 0, 0, 0)], [(0,) * 4, (1, 0, 0, 0, 0), (0, 0, 0, 0, 1)])

    def test_all_rules_are_kept(self):
        rules = (("most", 1, 1), ("every", 1, 2))
        self.assertIs(keeps(rules, 2, (0, 1, 0, 1)), True)
        self.assertIs(keeps(rules, 2, (0, 1, 1)), False)
        self.assertIs(keeps(rules, 2, (0, 0, 1)), False)
        self.assertIs(keeps((), 2, (0, 1, 1, 0, 0)), True)

    def test_long_rows(self):
        row = (0, 1, 1, 0, 1, 1, 1) * 600
        self.assertIs(keeps((("most", 1, 3), ("least", 1, 2)), 2, row), True)
        self.assertIs(keeps((("most", 1, 3), ("least", 1, 2)), 2, row + (0, 1)), True)
        self.assertIs(keeps((("most", 1, 3), ("least", 1, 2)), 2, row + (0, 1, 0)), False)
        self.assertIs(keeps((("every", 0, 4),), 2, row + (1,)), False)

    def test_errors_in_their_order(self):
        for letters in [0, 4] + odd_values():
            with self.assertRaises(InvalidNumber) as caught:
                keeps(None, letters, None)
            self.assertIs(caught.exception.value, letters)
        for rules in [(rule,) for rule in ODD_RULES] + [(("most", 0, 1),) * 5] + odd_values():
            with self.assertRaises(InvalidRules) as caught:
                keeps(rules, 2, None)
            self.assertIs(caught.exception.value, rules)
        for row in [(2,), (1, 1, 2), (-1,), (0, True), [0]] + odd_values():
            with self.assertRaises(InvalidRow) as caught:
                keeps((("most", 1, 1),), 2, row)
            self.assertIs(caught.exception.value, row)

    def test_by_name(self):
        self.assertIs(keeps(rules=(), letters=1, row=(0,)), True)

    def test_each_rule_on_all_short_rows(self):
        for letters, days in ((1, 7), (2, 7), (3, 5)):
            rows = rows_up_to(letters, days)
            for rule in all_rules(letters):
                for row in rows:
                    self.assertEqual(keeps((rule,), letters, row), keeps_rule(rule, row), (rule, row))


class MachineOfTest(unittest.TestCase):
    def look(self, rules, letters, days):
        """Look at the machine by all rows of at most so many days."""
        machine = machine_of(rules, letters)
        for row in rows_up_to(letters, days):
            kept = keeps_all(rules, row)
            self.assertEqual(machine.after(row) != -1, kept, (rules, row))
            self.assertEqual(keeps(rules, letters, row), kept, (rules, row))
        self.assertEqual(least(machine), machine)

    def test_some_machines(self):
        self.assertEqual(machine_of((), 3), Machine(3, ((0, 0, 0),)))
        self.assertEqual(machine_of((("most", 1, 1),), 2), Machine(2, ((0, 1), (0, -1))))
        self.assertEqual(machine_of((("most", 0, 3),), 1), Machine(1, ((1,), (2,), (3,), (-1,))))
        self.assertEqual(machine_of((("least", 1, 2),), 2), Machine(2, ((0, 1), (-1, 2), (0, 2))))
        self.assertEqual(machine_of((("every", 1, 2),), 2), Machine(2, ((1, 0), (-1, 0))))
        self.assertEqual(machine_of((("never", (1, 0)),), 2), Machine(2, ((0, 1), (-1, 1))))
        self.assertEqual(machine_of((("every", 0, 1), ("never", (0,))), 2), Machine(2, ((-1, -1),)))

    def test_each_rule_on_all_short_rows(self):
        for letters, days in ((1, 7), (2, 7), (3, 5)):
            for rule in all_rules(letters):
                self.look((rule,), letters, days)

    def test_all_pairs_of_rules_for_two_letters(self):
        for rules in itertools.combinations(all_rules(2), 2):
            self.look(rules, 2, 6)

    def test_three_and_four_rules(self):
        two, three = all_rules(2), all_rules(3)
        for at in range(60):
            self.look((two[at % 32], two[at * 5 % 32], two[at * 11 % 31]), 2, 6)
            rules = (three[at], three[at * 7 % 66], three[at * 5 % 61], three[at * 13 % 59])
            self.look(rules[:2 + at % 3], 3, 4)

    def test_twelve_states_are_not_too_many(self):
        rules = (("every", 0, 3), ("every", 1, 4))
        self.assertEqual(sights(rules, 3, 4, 4), 12)
        self.assertEqual(len(machine_of(rules, 3)), 12)
        self.look(rules, 3, 6)

    def test_more_than_twelve_states(self):
        for rules, many in (
            ((("every", 0, 3), ("every", 1, 4), ("most", 0, 2)), 13),
            ((("every", 0, 2), ("every", 2, 4), ("every", 1, 4)), 14),
            ((("every", 0, 4), ("every", 2, 4), ("never", (2, 0))), 15),
            ((("every", 0, 4), ("most", 0, 2), ("every", 1, 4)), 17),
        ):
            self.assertEqual(sights(rules, 3, 4, 4), many)
            with self.assertRaises(TooLarge) as caught:
                machine_of(rules, 3)
            self.assertEqual(caught.exception.many, many)

    def test_fewer_rules_may_need_more_states(self):
        with self.assertRaises(TooLarge) as caught:
            machine_of((("every", 0, 4), ("every", 1, 4)), 3)
        self.assertEqual(caught.exception.many, 16)
        self.assertEqual(len(machine_of((("every", 0, 4), ("every", 1, 4), ("never", (2,))), 3)), 7)

    def test_errors_in_their_order(self):
        for letters in [0, 4] + odd_values():
            with self.assertRaises(InvalidNumber) as caught:
                machine_of(None, letters)
            self.assertIs(caught.exception.value, letters)
        for rules in [(rule,) for rule in ODD_RULES] + [(("most", 0, 1),) * 5] + odd_values():
            with self.assertRaises(InvalidRules) as caught:
                machine_of(rules, 2)
            self.assertIs(caught.exception.value, rules)

    def test_by_name_and_kind(self):
        machine = machine_of(rules=Tuple([Tuple(["never", Tuple([0, 0])])]), letters=2)
        self.assertIs(type(machine), Machine)
        self.assertEqual(machine, Machine(2, ((1, 0), (-1, 0))))
        self.assertTrue(is_plain(machine.table))

    def test_four_of_the_widest_rules(self):
        rules = (("never", (0, 1, 2)), ("never", (2, 1, 0)), ("never", (1, 1, 1)), ("never", (2, 2, 2)))
        self.assertEqual(len(machine_of(rules, 3)), sights(rules, 3, 4, 4))


if __name__ == "__main__":
    unittest.main()
