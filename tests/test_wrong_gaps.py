"""Point [2] and the first lines of the gaps and the plans: when which error is raised, with what, in which order."""

import copy
import unittest

from keptsorted.errors import InvalidFilling, InvalidNumber
from keptsorted.gaps import count_sweeps, gap_family, gaps_of, slowest, sums, sweep, sweeps_needed
from keptsorted.plans import after_plan, cheapest, cost_of, least_cost, sorts_all, sweeps_of
from tests import helpers

# Each function that takes places, with what may stand behind them.
BEHIND_PLACES = (
    (gap_family, (1,)), (sums, ([],)), (sweeps_needed, ([], 1)), (slowest, ([], 1)), (sweeps_of, ([],)),
    (cost_of, ([],)), (sorts_all, ([],)), (least_cost, ([],)), (cheapest, ([],)),
)
OF_FEW_PLACES = (least_cost, cheapest)
# Each function that takes a filling, with what may stand behind it.
BEHIND_FILLING = ((gaps_of, ()), (sweep, (1,)), (count_sweeps, (1,)), (after_plan, ([],)))
# Each function that takes a list of gaps behind the places, with what may stand behind it.
BEHIND_GAPS = (
    (sums, ()), (sweeps_needed, (1,)), (slowest, (1,)), (sweeps_of, ()), (cost_of, ()), (sorts_all, ()),
    (least_cost, ()), (cheapest, ()),
)
OUT_OF_BOUNDS = (0, -1, -40, 41, 42, 10 ** 70, -10 ** 70, 10 ** 5000)


class Whole(int):
    """A whole number of a class of its own."""


class Wrong(unittest.TestCase):
    def assert_number(self, thing, function, *arguments, **named):
        self.assertIs(helpers.caught(self, InvalidNumber, function, *arguments, **named).number, thing)

    def assert_filling(self, index, function, *arguments, **named):
        self.assertEqual(helpers.caught(self, InvalidFilling, function, *arguments, **named).index, index)

    def assert_gap_everywhere(self, places, thing):
        """A wrong gap is handed in wherever one may stand."""
        filling = [1] * places
        self.assert_number(thing, gap_family, places, thing)
        for gaps in ([], [1], [1] * 60):
            self.assert_number(thing, sweeps_needed, places, gaps, thing)
            self.assert_number(thing, slowest, places, gaps, thing)
        self.assert_number(thing, sweep, filling, thing)
        self.assert_number(thing, count_sweeps, filling, thing)

    def assert_gaps_everywhere(self, places, number, gaps):
        """A wrong list of gaps is handed in under each of its names."""
        for function, rest in BEHIND_GAPS:
            if places <= 12 or function not in OF_FEW_PLACES:
                self.assert_number(number, function, places, gaps, *rest)
        self.assert_number(number, after_plan, [1] * places, gaps)


class WrongPlaces(Wrong):
    def test_numbers_out_of_bounds(self):
        for function, rest in BEHIND_PLACES:
            for number in OUT_OF_BOUNDS:
                self.assert_number(number, function, number, *rest)

    def test_things_of_any_other_kind(self):
        for function, rest in BEHIND_PLACES:
            for thing in helpers.things_that_are_no_whole_numbers():
                self.assert_number(thing, function, thing, *rest)

    def test_more_than_twelve_places(self):
        for function in OF_FEW_PLACES:
            for number in (13, 14, 20, 39, 40, Whole(13)):
                for gaps in ([], [1], [13], None):
                    self.assert_number(number, function, number, gaps)

    def test_numbers_within_bounds(self):
        for function, rest in BEHIND_PLACES:
            for number in (1, 2, 12, Whole(1), Whole(12)):
                function(number, *rest)
            if function not in OF_FEW_PLACES:
                for number in (13, 39, 40, Whole(40)):
                    function(number, *rest)
        self.assertEqual(gap_family(Whole(3), 2), [[1, 3], [2]])
        self.assertEqual(sums(Whole(5), [2]), [2, 4])
        self.assertEqual(sweeps_needed(Whole(5), [], 1), 4)
        self.assertEqual(len(slowest(Whole(5), [], 1)), 5)
        self.assertEqual(least_cost(Whole(4), [1, 2]), 8)


class WrongFillings(Wrong):
    def test_no_list_of_so_many_things(self):
        for function, rest in BEHIND_FILLING:
            for thing in helpers.things_that_are_no_lists() + [[], [1] * 41, [None] * 41, [1] * 1000]:
                self.assert_filling(None, function, thing, *rest)

    def test_things_that_are_no_whole_numbers(self):
        for function, rest in BEHIND_FILLING:
            for thing in helpers.things_that_are_no_whole_numbers():
                self.assert_filling(0, function, [thing], *rest)
                self.assert_filling(1, function, [1, thing, 3, thing], *rest)
                self.assert_filling(39, function, [1] * 39 + [thing], *rest)

    def test_fillings_within_bounds(self):
        for function, rest in BEHIND_FILLING:
            for filling in ([0], [-5], [helpers.HUGE], [1] * 40, [Whole(3)]):
                function(filling, *rest)


class WrongGaps(Wrong):
    def test_numbers_out_of_bounds(self):
        for number in OUT_OF_BOUNDS:
            for places in (1, 5, 12, 40):
                self.assert_gap_everywhere(places, number)
        for places in (1, 2, 5, 12, 39, 40):
            for number in (places + 1, Whole(places + 1), 0, -1):
                self.assert_gap_everywhere(places, number)

    def test_things_of_any_other_kind(self):
        for thing in helpers.things_that_are_no_whole_numbers():
            for places in (1, 5, 40):
                self.assert_gap_everywhere(places, thing)

    def test_gaps_within_bounds(self):
        for places in (1, 2, 5, 12, 39, 40):
            for gap in (1, places, Whole(1), Whole(places)):
                self.assertEqual(gap_family(places, gap), helpers.gap_chains(places, gap))
                self.assertEqual(sweep([1] * places, gap), [1] * places)
                self.assertEqual(count_sweeps([1] * places, gap), 0)
                self.assertEqual(sweeps_needed(places, [1], gap), 0)
                self.assertEqual(len(slowest(places, [1], gap)), places)


class WrongListsOfGaps(Wrong):
    def test_no_list(self):
        for thing in helpers.things_that_are_no_lists():
            for places in (1, 5, 40):
                self.assert_gaps_everywhere(places, thing, thing)
        for thing in ((1, 2), "12", {1: 1}, range(1, 3), 1):
            self.assert_gaps_everywhere(5, thing, thing)

    def test_things_that_are_no_gaps(self):
        for thing in helpers.things_that_are_no_whole_numbers() + list(OUT_OF_BOUNDS):
            for places in (1, 5, 40):
                for gaps in ([thing], [1, thing], [thing, 1], [1] * 59 + [thing], [1, thing, 1, thing]):
                    self.assert_gaps_everywhere(places, thing, gaps)

    def test_numbers_just_beyond_the_places(self):
        for places in (1, 2, 5, 12, 39, 40):
            for number in (places + 1, Whole(places + 1)):
                self.assert_gaps_everywhere(places, number, [1, places, number])

    def test_the_first_wrong_thing_is_told(self):
        first, second = [], []
        self.assert_gaps_everywhere(5, first, [1, first, second])
        self.assert_gaps_everywhere(5, second, [1, second, first])
        self.assert_gaps_everywhere(5, 6, [5, 6, 7, None])
        self.assert_gaps_everywhere(5, True, [1, True, 0])
        self.assert_gaps_everywhere(5, None, [2, 5, None, True])

    def test_lists_beyond_the_bounds_are_checked_whole(self):
        self.assert_gaps_everywhere(5, 6, [1, 2, 3, 4, 5] * 100 + [6])
        self.assert_gaps_everywhere(5, None, [1] * 5000 + [None, 6])

    def test_lists_within_bounds(self):
        for function, rest in BEHIND_GAPS:
            for gaps in ([], [1], [12], [12, 1, 12], [Whole(1), Whole(12)], [1] * 60, list(range(1, 13)) * 5):
                function(12, gaps, *rest)
                if function not in OF_FEW_PLACES:
                    function(40, gaps + [40], *rest)
        self.assertEqual(sums(5, [Whole(2), 2]), [2, 4])
        self.assertEqual(sweeps_of(5, [Whole(2), Whole(1)]), [2, 2])
        self.assertIs(sorts_all(5, [Whole(1)]), True)
        self.assertEqual(least_cost(4, [Whole(2), 1]), 8)


class OrderOfTheArguments(Wrong):
    def test_the_places_come_before_everything(self):
        for function, rest in BEHIND_PLACES:
            for wrong in (None, [None], [[None]], 0, True, 99):
                arguments = [wrong for _ in rest]
                for places in (0, False, None, 41):
                    self.assert_number(places, function, places, *arguments)

    def test_the_filling_comes_before_the_gap_and_the_plan(self):
        for function, rest in BEHIND_FILLING:
            for wrong in (None, [None], 0, True, 99):
                arguments = [wrong for _ in rest]
                self.assert_filling(None, function, [], *arguments)
                self.assert_filling(None, function, None, *arguments)
                self.assert_filling(1, function, [1, None], *arguments)

    def test_the_gaps_come_before_the_gap(self):
        for function in (sweeps_needed, slowest):
            for wrong in (None, 0, 6, True, [1]):
                for gaps in ((), None, 1):
                    self.assert_number(gaps, function, 5, gaps, wrong)
                self.assert_number(7, function, 5, [1, 7, 0], wrong)
                self.assert_number(False, function, 5, [False], wrong)

    def test_the_order_is_that_of_the_parameters_also_by_name(self):
        self.assert_number(0, gap_family, gap=None, places=0)
        self.assert_number(0, sums, gaps=None, places=0)
        self.assert_filling(None, sweep, gap=None, filling=None)
        self.assert_filling(0, count_sweeps, gap=None, filling=[None])
        self.assert_filling(0, after_plan, plan=None, filling=[None])
        for function in (sweeps_needed, slowest):
            self.assert_number(0, function, gap=None, gaps=None, places=0)
            self.assert_number(None, function, gap=0, gaps=None, places=1)
        for function in (sweeps_of, cost_of, sorts_all):
            self.assert_number(0, function, plan=None, places=0)
        for function in OF_FEW_PLACES:
            self.assert_number(13, function, gaps=None, places=13)

    def test_the_later_argument_is_checked_also_where_it_is_not_needed(self):
        self.assert_number(2, sums, 1, [2])
        self.assert_number(2, sorts_all, 1, [2])
        self.assert_number(0, sorts_all, 5, [1, 0])
        self.assert_number(2, after_plan, [3], [2])
        self.assert_number(2, sweep, [3], 2)
        for function in (sweeps_needed, slowest):
            self.assert_number(2, function, 1, [], 2)
            self.assert_number(2, function, 1, [2], 1)
            self.assert_number(None, function, 5, [1], None)
        for function in OF_FEW_PLACES:
            self.assert_number(2, function, 1, [2])
            self.assert_number(None, function, 5, [2, 3, None])
            self.assert_number(0, function, 5, [1, 0])


class NothingIsChanged(Wrong):
    def test_a_call_that_raises_an_error_changes_nothing(self):
        filling, gaps = [3, 2, 1], [1, 2, [3], 4]
        wrong_filling = [3, None, [1]]
        before = copy.deepcopy((filling, gaps, wrong_filling))
        self.assert_gaps_everywhere(3, gaps[2], gaps)
        self.assert_number(gaps[2], after_plan, filling, gaps)
        self.assert_number(4, sweep, filling, 4)
        self.assert_number(4, count_sweeps, filling, 4)
        for function, rest in BEHIND_FILLING:
            self.assert_filling(1, function, wrong_filling, *rest)
        self.assertEqual((filling, gaps, wrong_filling), before)


if __name__ == "__main__":
    unittest.main()
