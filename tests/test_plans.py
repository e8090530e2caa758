"""Point [17]: keptsorted.plans."""

import functools
import itertools
import random
import unittest

from keptsorted.families import after_row
from keptsorted.gaps import count_sweeps, gap_family, gaps_of, slowest, sweep, sweeps_needed
from keptsorted.plans import after_plan, cheapest, cost_of, least_cost, sorts_all, sweeps_of
from tests import helpers


def some_plan(source, places, longest):
    return [source.randint(1, places) for _ in range(source.randint(0, longest))]


def reference_sweeps(places, plan):
    """For each gap of a plan how many of its multiples are no sums of the gaps before it."""
    return [
        len(set(range(gap, places, gap)) - set(helpers.reference_sums(places, plan[:at])))
        for at, gap in enumerate(plan)
    ]


def reference_cost(places, plan):
    return sum(number * (places - gap) for number, gap in zip(reference_sweeps(places, plan), plan))


def plans_without_repetition(places):
    """All plans in which no gap comes twice."""
    numbers = range(1, places + 1)
    return [list(plan) for many in range(places + 1) for plan in itertools.permutations(numbers, many)]


def all_choices(places):
    """All lists of unlike gaps, ascending, with the empty one."""
    return [list(gaps) for many in range(places + 1) for gaps in itertools.combinations(range(1, places + 1), many)]


def reference_least_cost(places, gaps):
    """The least cost by what is sorted so far, gap for gap; None if not all can be sorted."""
    everything = tuple(range(1, places))

    @functools.lru_cache(None)
    def rest_of_cost(done):
        if done == everything:
            return 0
        costs = []
        for gap in gaps:
            more = tuple(helpers.reference_sums(places, [*done, gap]))
            if more != done and rest_of_cost(more) is not None:
                missed = len(set(range(gap, places, gap)) - set(done))
                costs.append(missed * (places - gap) + rest_of_cost(more))
        return min(costs, default=None)

    return rest_of_cost(())


class Examples(unittest.TestCase):
    def test_examples_of_the_document(self):
        self.assertEqual(sweeps_of(8, [5, 3, 1]), [1, 2, 4])
        self.assertEqual(cost_of(8, [5, 3, 1]), 41)
        self.assertIs(sorts_all(8, [5, 3]), False)
        self.assertEqual(after_plan([4, 3, 2, 1], [2, 1]), [1, 2, 3, 4])
        self.assertEqual(least_cost(4, [1, 2]), 8)
        self.assertEqual(cost_of(3, cheapest(3, [1, 2])), 3)
        self.assertIsNone(cheapest(4, [2, 3]))


class SweepsAndCosts(unittest.TestCase):
    def test_the_empty_plan_and_one_place(self):
        for places in (1, 2, 40):
            self.assertEqual(sweeps_of(places, []), [])
            self.assertEqual(cost_of(places, []), 0)
        self.assertEqual(sweeps_of(1, [1, 1]), [0, 0])
        self.assertEqual(cost_of(1, [1, 1]), 0)

    def test_one_gap(self):
        self.assertEqual(sweeps_of(40, [1]), [39])
        self.assertEqual(cost_of(40, [1]), 39 * 39)
        self.assertEqual(sweeps_of(40, [20]), [1])
        self.assertEqual(cost_of(40, [20]), 20)
        self.assertEqual(sweeps_of(40, [39]), [1])
        self.assertEqual(cost_of(40, [39]), 1)

    def test_a_gap_as_great_as_the_number_of_places_costs_nothing(self):
        self.assertEqual(sweeps_of(40, [40, 1, 40]), [0, 39, 0])
        self.assertEqual(cost_of(5, [5, 5]), 0)

    def test_a_gap_that_is_a_sum_by_then_costs_nothing(self):
        self.assertEqual(sweeps_of(10, [3, 3, 6, 9, 3]), [3, 0, 0, 0, 0])
        self.assertEqual(sweeps_of(10, [2, 3, 5, 7, 1]), [4, 2, 0, 0, 1])
        self.assertEqual(cost_of(10, [3, 3, 6, 9, 3]), 3 * 7)
        self.assertEqual(sweeps_of(12, [1] + [7, 5] * 5), [11] + [0] * 10)

    def test_the_order_of_the_gaps_counts(self):
        self.assertEqual(sweeps_of(8, [3, 5, 1]), [2, 1, 4])
        self.assertEqual(sweeps_of(8, [1, 3, 5]), [7, 0, 0])
        self.assertEqual(sweeps_of(9, [5, 3, 4, 1]), [1, 2, 1, 2])
        self.assertEqual(sweeps_of(9, [5, 4, 3, 1]), [1, 2, 2, 2])
        self.assertEqual(cost_of(9, [5, 3, 4, 1]), 4 + 2 * 6 + 5 + 2 * 8)
        self.assertEqual(cost_of(9, [5, 4, 3, 1]), 4 + 2 * 5 + 2 * 6 + 2 * 8)

    def test_each_number_is_what_is_needed_after_the_gaps_before(self):
        source = random.Random(71)
        for _ in range(200):
            places = source.randint(1, 40)
            plan = some_plan(source, places, source.choice((3, 6, 60)))
            told = sweeps_of(places, plan)
            self.assertEqual(told, reference_sweeps(places, plan))
            self.assertEqual(told, [sweeps_needed(places, plan[:at], gap) for at, gap in enumerate(plan)])
            self.assertEqual(cost_of(places, plan), reference_cost(places, plan))

    def test_all_plans_without_repetition_of_few_places(self):
        for places in range(1, 6):
            for plan in plans_without_repetition(places):
                self.assertEqual(sweeps_of(places, plan), reference_sweeps(places, plan))
                self.assertEqual(cost_of(places, plan), reference_cost(places, plan))

    def test_what_a_gap_costs_depends_on_the_sums_before_it_alone(self):
        self.assertEqual(sweeps_of(40, [2, 3, 1])[-1], sweeps_of(40, [3, 2, 5, 7, 9, 1])[-1])
        self.assertEqual(sweeps_of(40, [4, 6, 10, 7])[-1], sweeps_of(40, [6, 4, 7])[-1])


class SortsAll(unittest.TestCase):
    def test_exactly_if_one_is_among_the_gaps_or_there_is_one_place(self):
        self.assertIs(sorts_all(1, []), True)
        self.assertIs(sorts_all(1, [1]), True)
        self.assertIs(sorts_all(2, []), False)
        self.assertIs(sorts_all(2, [2]), False)
        self.assertIs(sorts_all(2, [1]), True)
        self.assertIs(sorts_all(40, [1]), True)
        self.assertIs(sorts_all(40, list(range(2, 41))), False)
        self.assertIs(sorts_all(40, list(range(40, 0, -1))), True)
        self.assertIs(sorts_all(40, [1] + [2] * 59), True)

    def test_all_plans_of_two_gaps_with_all_fillings_by_noughts_and_ones(self):
        for places in range(1, 7):
            marks = helpers.all_marks(places)
            numbers = range(1, places + 1)
            plans = [[]] + [[gap] for gap in numbers] + [list(plan) for plan in itertools.product(numbers, repeat=2)]
            for plan in plans:
                expected = all(after_plan(filling, plan) == sorted(filling) for filling in marks)
                self.assertIs(sorts_all(places, plan), expected)


class AfterPlan(unittest.TestCase):
    def reference_after(self, filling, plan):
        for number, gap in zip(reference_sweeps(len(filling), plan), plan):
            for _ in range(number):
                filling = helpers.reference_sweep(filling, gap)
        return filling

    def test_the_empty_plan_and_one_place(self):
        self.assertEqual(after_plan([3, 1, 2], []), [3, 1, 2])
        self.assertEqual(after_plan([7], []), [7])
        self.assertEqual(after_plan([7], [1, 1]), [7])
        self.assertEqual(after_plan([3, 1, 2], [3]), [3, 1, 2])

    def test_plans_that_do_not_sort_all(self):
        self.assertEqual(after_plan([6, 5, 4, 3, 2, 1], [3]), [3, 2, 1, 6, 5, 4])
        self.assertEqual(after_plan([6, 5, 4, 3, 2, 1], [2]), [2, 1, 4, 3, 6, 5])
        self.assertEqual(after_plan([6, 5, 4, 3, 2, 1], [3, 2]), [1, 2, 3, 4, 5, 6])
        self.assertEqual(after_plan([2, 1, 4, 3], [2, 3]), [2, 1, 4, 3])

    def test_all_fillings_of_few_places(self):
        for places in range(1, 5):
            fillings = helpers.all_marks(places) + helpers.all_orders(places)
            for plan in plans_without_repetition(places):
                for filling in fillings:
                    self.assertEqual(after_plan(filling, plan), self.reference_after(filling, plan))

    def test_many_places(self):
        source = random.Random(72)
        for _ in range(150):
            places = source.randint(1, 40)
            filling = [source.randint(-9, 9) for _ in range(places)]
            plan = some_plan(source, places, source.choice((2, 5, 60)))
            after = after_plan(filling, plan)
            self.assertEqual(after, self.reference_after(filling, plan))
            self.assertLessEqual({gap for gap in plan if gap < places}, set(gaps_of(after)))

    def test_so_many_sweeps_do_what_sorting_by_the_families_does(self):
        source = random.Random(73)
        for _ in range(100):
            places = source.randint(1, 40)
            filling = [source.randint(-99, 99) for _ in range(places)]
            plan = some_plan(source, places, 6)
            families = [gap_family(places, gap) for gap in plan]
            self.assertEqual(after_plan(filling, plan), after_row(filling, families))

    def test_one_sweep_less_is_not_enough(self):
        for places, before, gap in ((8, [5, 3], 1), (40, [7, 11], 2), (40, [], 1), (12, [4], 6)):
            filling = slowest(places, before, gap)
            self.assertEqual(after_plan(filling, before), filling)
            number = sweeps_of(places, before + [gap])[-1]
            self.assertEqual(number, count_sweeps(filling, gap))
            for _ in range(number - 1):
                filling = sweep(filling, gap)
                self.assertNotIn(gap, gaps_of(filling))
            self.assertIn(gap, gaps_of(after_plan(slowest(places, before, gap), before + [gap])))

    def test_plans_with_one_sort_forty_places(self):
        source = random.Random(74)
        huge = helpers.HUGE
        filling = [huge - place for place in range(39)] + [-huge]
        for _ in range(20):
            plan = some_plan(source, 40, 8) + [1]
            self.assertEqual(after_plan(filling, plan), sorted(filling))
        self.assertEqual(after_plan(filling, [1] + some_plan(source, 40, 59)), sorted(filling))


class LeastCost(unittest.TestCase):
    def assert_cheapest(self, places, gaps, expected):
        told = least_cost(places, gaps)
        plan = cheapest(places, gaps)
        self.assertEqual(told, expected)
        if expected is None:
            self.assertIsNone(told)
            self.assertIsNone(plan)
            return
        self.assertIs(type(told), int)
        self.assertIs(type(plan), list)
        self.assertLessEqual(len(plan), 60)
        self.assertLessEqual(set(plan), set(gaps))
        self.assertEqual(reference_cost(places, plan), expected)
        self.assertEqual(cost_of(places, plan), expected)
        self.assertTrue(places == 1 or 1 in plan)
        self.assertIs(sorts_all(places, plan), True)

    def test_one_place(self):
        for gaps in ([], [1], [1, 1]):
            self.assert_cheapest(1, gaps, 0)

    def test_none_just_where_one_is_not_in_the_list(self):
        for places in range(2, 13):
            self.assert_cheapest(places, [], None)
            self.assert_cheapest(places, list(range(2, places + 1)), None)
            self.assert_cheapest(places, [places] * 60, None)
            self.assert_cheapest(places, [1], (places - 1) ** 2)

    def test_all_plans_of_few_places(self):
        for places in range(1, 7):
            costs = [
                (set(plan), reference_cost(places, plan))
                for plan in plans_without_repetition(places)
                if 1 in plan or places == 1
            ]
            for gaps in all_choices(places):
                found = [cost for chosen, cost in costs if chosen <= set(gaps)]
                self.assert_cheapest(places, gaps, min(found, default=None))

    def test_all_plans_of_few_places_with_repetition(self):
        for places in range(1, 5):
            numbers = range(1, places + 1)
            plans = [list(plan) for many in range(6) for plan in itertools.product(numbers, repeat=many)]
            costs = [(set(plan), cost_of(places, plan)) for plan in plans if sorts_all(places, plan)]
            for gaps in all_choices(places):
                found = [cost for chosen, cost in costs if chosen <= set(gaps)]
                self.assert_cheapest(places, gaps, min(found, default=None))

    def test_the_greatest_gap_first_is_not_always_cheapest(self):
        self.assertEqual(cost_of(9, [5, 4, 3, 1]), 42)
        self.assert_cheapest(9, [1, 3, 4, 5], 37)
        self.assert_cheapest(9, [1, 3, 4, 5, 6], 34)
        self.assert_cheapest(9, [1, 2, 3, 4, 5, 6], 33)

    def test_not_every_gap_of_the_list_is_of_use(self):
        self.assertEqual(cost_of(4, [3, 2, 1]), cost_of(4, [2, 3, 1]))
        for places in range(2, 13):
            for gap in range(2, places + 1):
                expected = min(reference_cost(places, plan) for plan in ([1], [gap, 1]))
                self.assert_cheapest(places, [1, gap], expected)

    def test_all_gaps(self):
        expected = [0, 1, 3, 6, 10, 14, 19, 24, 30, 37, 44, 51]
        for places, cost in enumerate(expected, 1):
            self.assert_cheapest(places, list(range(1, places + 1)), cost)
            self.assert_cheapest(places, list(range(places, 0, -1)), cost)

    def test_more_places(self):
        source = random.Random(75)
        for places, times in ((7, 30), (8, 30), (9, 30), (10, 20), (11, 12), (12, 12)):
            for _ in range(times):
                gaps = [1] + some_plan(source, places, 7)
                source.shuffle(gaps)
                self.assert_cheapest(places, gaps, reference_least_cost(places, gaps))

    def test_the_same_gap_twice_any_order_and_sixty_gaps(self):
        self.assert_cheapest(9, [5, 1, 4, 3, 5, 1, 4, 3], 37)
        self.assert_cheapest(9, [1, 3, 4, 5] * 15, 37)
        self.assert_cheapest(9, [5, 4, 3, 1] * 15, 37)
        self.assert_cheapest(9, [1] * 60, 64)
        self.assert_cheapest(9, [9] * 59 + [1], 64)

    def test_cheapest_plans_sort_all_fillings_by_noughts_and_ones(self):
        for places in (2, 5, 8, 9):
            for gaps in ([1], [1, 2], list(range(1, places + 1))):
                plan = cheapest(places, gaps)
                for filling in helpers.all_marks(places):
                    self.assertEqual(after_plan(filling, plan), sorted(filling))


class InTime(unittest.TestCase):
    def test_sixty_gaps_at_forty_places(self):
        filling = list(range(40, 0, -1))
        for plan in ([1] * 60, list(range(40, 0, -1)) + [1] * 20, [40] * 60, list(range(20, 40)) * 3,
                     [17, 13, 11, 7] * 15):
            helpers.assert_in_time(self, sweeps_of, 40, plan)
            helpers.assert_in_time(self, cost_of, 40, plan)
            helpers.assert_in_time(self, sorts_all, 40, plan)
            helpers.assert_in_time(self, after_plan, filling, plan)

    def test_sixty_gaps_at_twelve_places(self):
        for gaps in (list(range(1, 13)) * 5, list(range(12, 0, -1)) * 5, [1] * 60, [12] * 60, list(range(2, 12)) * 6,
                     [1] + [7, 8, 9, 10, 11] * 11):
            helpers.assert_in_time(self, least_cost, 12, gaps)
            helpers.assert_in_time(self, cheapest, 12, gaps)


class ArgumentsAndAnswers(unittest.TestCase):
    def test_no_argument_is_changed_and_every_list_is_new(self):
        self.assertEqual(helpers.assert_leaves_alone(self, sweeps_of, 8, [5, 3, 1]), [1, 2, 4])
        self.assertEqual(helpers.assert_leaves_alone(self, sweeps_of, 8, []), [])
        self.assertEqual(helpers.assert_leaves_alone(self, cost_of, 8, [5, 3, 1]), 41)
        self.assertIs(helpers.assert_leaves_alone(self, sorts_all, 8, [5, 3, 1]), True)
        self.assertEqual(helpers.assert_leaves_alone(self, after_plan, [3, 2, 1], [2, 1]), [1, 2, 3])
        self.assertEqual(helpers.assert_leaves_alone(self, after_plan, [3, 2, 1], []), [3, 2, 1])
        self.assertEqual(helpers.assert_leaves_alone(self, least_cost, 9, [5, 1, 4, 3, 1]), 37)
        self.assertEqual(helpers.assert_leaves_alone(self, cheapest, 2, [1]), [1])
        self.assertEqual(cost_of(9, helpers.assert_leaves_alone(self, cheapest, 9, [5, 1, 4, 3, 1])), 37)
        helpers.assert_leaves_alone(self, cheapest, 1, [])
        helpers.assert_leaves_alone(self, cheapest, 1, [1])

    def test_changes_to_an_answer_have_no_effect(self):
        filling, gaps = [3, 2, 1], [1, 1, 1]
        for answer in (sweeps_of(3, gaps), after_plan(filling, []), after_plan(filling, gaps), cheapest(3, gaps),
                       cheapest(1, gaps)):
            answer.append(5)
            answer[0] = 9
        self.assertEqual((filling, gaps), ([3, 2, 1], [1, 1, 1]))
        self.assertEqual((sweeps_of(3, gaps), after_plan(filling, gaps)), ([2, 0, 0], [1, 2, 3]))
        self.assertEqual((cost_of(3, cheapest(3, gaps)), cost_of(1, cheapest(1, gaps))), (4, 0))

    def test_arguments_by_name(self):
        self.assertEqual(sweeps_of(plan=[5, 3, 1], places=8), [1, 2, 4])
        self.assertEqual(cost_of(plan=[5, 3, 1], places=8), 41)
        self.assertIs(sorts_all(plan=[5, 3], places=8), False)
        self.assertEqual(after_plan(plan=[2, 1], filling=[4, 3, 2, 1]), [1, 2, 3, 4])
        self.assertEqual(least_cost(gaps=[1, 2], places=4), 8)
        self.assertEqual(cost_of(4, cheapest(gaps=[1, 2], places=4)), 8)
        self.assertEqual(cost_of(8, plan=[5, 3, 1]), 41)


if __name__ == "__main__":
    unittest.main()
