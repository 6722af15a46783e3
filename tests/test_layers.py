"""[15], [16]: rotas of so many days, day by day, and what they cost."""

import random
import unittest

from dutyweeks.layers import NO_WAY, cheapest_rota, costs_left, first_rota, has_fixed, layers_of, no_cost
from tests import reckon
from tests.test_rotas import NO_DAY, TASK
from tests.test_rounds import TWO_DAYS


def days_of(task, n, fixed):
    """The rotas of up to n days, each of which has what is fixed as far as it goes."""
    return [[value for value in reckon.rotas(task, k) if reckon.has(value, [part for part in fixed if part[0] < k])]
            for k in range(n + 1)]


class LayersTest(unittest.TestCase):
    def test_the_states_behind_so_many_days(self):
        source = random.Random(70)
        for task in [TASK, NO_DAY, TWO_DAYS] + reckon.random_tasks(70, 30):
            fixed = reckon.random_fixed(source, task, 3)
            layers = layers_of(task, 3, fixed)
            for k, found in enumerate(days_of(task, 3, fixed)):
                self.assertEqual(sorted(layers[k]), sorted({reckon.state_behind(task, value) for value in found}))
            for k in range(3):
                held = [(person, letter) for day, person, letter in fixed if day == k]
                for state in layers[k]:
                    there = [step for step in reckon.steps(task, state) if all(step[0][who] == what for who, what in held)]
                    self.assertEqual(layers[k][state], there)
            self.assertTrue(all(steps == [] for steps in layers[3].values()))

    def test_costs_left(self):
        layers = layers_of(TWO_DAYS, 2, ())
        left = costs_left(layers, lambda day, deal: 10 * day + deal[0])
        self.assertEqual(left, [{(0, (0,)): 12}, {(0, (1,)): 11}, {(0, (2,)): 0}])
        left = costs_left(layers_of(TWO_DAYS, 3, ()), no_cost)
        self.assertTrue(all(cost >= NO_WAY for layer in left for cost in layer.values()))

    def test_the_cheapest_rota(self):
        source = random.Random(71)
        for task in [TASK] + reckon.random_tasks(71, 40):
            costs = {(day, deal): source.randint(0, 2) for day in range(3) for deal in reckon.deals_of(task)}
            found = cheapest_rota(task, layers_of(task, 3, ()), lambda day, deal: costs[day, deal])
            expected = min(reckon.rotas(task, 3), default=None, key=lambda value: (
                sum(costs[day, deal] for day, deal in enumerate(value)), value))
            self.assertEqual(found, expected)

    def test_the_first_rota(self):
        source = random.Random(72)
        for task in [TASK, NO_DAY, TWO_DAYS] + reckon.random_tasks(72, 40):
            fixed = reckon.random_fixed(source, task, 3)
            self.assertEqual(first_rota(task, 3, fixed), min(reckon.rotas_with(task, 3, fixed), default=None))
            self.assertEqual(first_rota(task, 0, ()), ())

    def test_has_fixed(self):
        rota = ((0, 1), (1, 1))
        for fixed, right in (((), True), (((0, 0, 0), (1, 1, 1)), True), (((0, 0, 0), (1, 1, 0)), False), (((1, 0, 0),), False)):
            self.assertIs(has_fixed(rota, fixed), right)


if __name__ == "__main__":
    unittest.main()
