"""Point [2] and the second paragraph of the interface: which errors are raised, with which fields, in which order."""

import copy
import unittest

from keptsorted.errors import InvalidFamily, InvalidFilling, InvalidNumber, InvalidRow
from keptsorted.families import after_row, is_sorted_by, sort_by
from keptsorted.keeps import breaking, keeps
from keptsorted.rows import are_alike, needless, parting, sorts, sure_pairs, unsorted
from keptsorted.together import count_marks, count_orders, keep_one_another, orders, sure_together
from tests import helpers


def first_order(places, families):
    """The first filling of the generator, so that its errors are met like those of a function."""
    return next(orders(places, families))


# Each function that takes places, with what may stand behind them.
BEHIND_PLACES = (
    (keeps, ([], [])), (breaking, ([], [])), (sure_pairs, ([],)), (sorts, ([], [])), (unsorted, ([], [])),
    (are_alike, ([], [])), (parting, ([], [])), (needless, ([],)), (keep_one_another, ([],)), (sure_together, ([],)),
    (count_orders, ([],)), (count_marks, ([],)), (first_order, ([],)),
)
# Each function that takes a row behind the places, with what may stand behind it.
BEHIND_ROW = (
    (sure_pairs, ()), (sorts, ([],)), (unsorted, ([],)), (are_alike, ([],)), (parting, ([],)), (needless, ()),
    (keep_one_another, ()), (sure_together, ()), (count_orders, ()), (count_marks, ()), (first_order, ()),
)


class Whole(int):
    """A whole number of a class of its own."""


class Wrong(unittest.TestCase):
    def assert_filling(self, index, function, *arguments):
        error = helpers.caught(self, InvalidFilling, function, *arguments)
        self.assertEqual(error.index, index)

    def assert_family(self, chain, index, function, *arguments):
        error = helpers.caught(self, InvalidFamily, function, *arguments)
        self.assertEqual((error.chain, error.index), (chain, index))

    def assert_row(self, family, chain, index, function, *arguments):
        error = helpers.caught(self, InvalidRow, function, *arguments)
        self.assertEqual((error.family, error.chain, error.index), (family, chain, index))

    def assert_everywhere_as_row(self, family, chain, index, places, row):
        """A wrong row is handed in under each of its names: `row`, `other`, `families`."""
        for function, rest in BEHIND_ROW:
            self.assert_row(family, chain, index, function, places, row, *rest)
        for function in (are_alike, parting):
            self.assert_row(family, chain, index, function, places, [], row)


class WrongPlaces(Wrong):
    def test_numbers_out_of_bounds(self):
        for function, rest in BEHIND_PLACES:
            for number in (0, -1, 41, 42, 10 ** 70, -10 ** 70, 10 ** 5000):
                self.assertIs(helpers.caught(self, InvalidNumber, function, number, *rest).number, number)

    def test_things_of_any_other_kind(self):
        for function, rest in BEHIND_PLACES:
            for thing in helpers.things_that_are_no_whole_numbers():
                self.assertIs(helpers.caught(self, InvalidNumber, function, thing, *rest).number, thing)

    def test_numbers_within_bounds(self):
        for function, expected in ((keeps, True), (breaking, None)):
            for number in (1, 2, 39, 40, Whole(1), Whole(40)):
                self.assertIs(function(number, [[1]], [[number]]), expected)
        for number in (1, 2, 39, 40, Whole(1), Whole(40)):
            self.assertIs(keep_one_another(number, [[[number]]]), True)
            self.assertEqual(sure_together(number, [[[number]]]), [])
            self.assertEqual(first_order(number, [[[number]]]), list(range(1, number + 1)))
        for number in (1, 2, 12, Whole(1), Whole(12)):
            self.assertEqual(sure_pairs(number, [[[number]]]), [])
            self.assertIs(sorts(number, [], [[number]]), True)
            self.assertIs(are_alike(number, [], [[[number]]]), True)
            self.assertEqual(needless(number, [[[number]]]), [0])


class WrongFillings(Wrong):
    def calls(self):
        return ((sort_by, []), (is_sorted_by, []), (after_row, []))

    def test_no_list_of_so_many_things(self):
        for function, rest in self.calls():
            for thing in helpers.things_that_are_no_lists():
                self.assert_filling(None, function, thing, rest)
            for thing in ([], [1] * 41, [1] * 1000):
                self.assert_filling(None, function, thing, rest)

    def test_the_number_of_things_comes_before_the_things(self):
        for function, rest in self.calls():
            self.assert_filling(None, function, ["1"] * 41, rest)
            self.assert_filling(None, function, [True] + [1] * 40, rest)

    def test_things_that_are_no_whole_numbers(self):
        for function, rest in self.calls():
            for thing in helpers.things_that_are_no_whole_numbers():
                self.assert_filling(0, function, [thing], rest)
                self.assert_filling(1, function, [1, thing, 3], rest)
                self.assert_filling(39, function, [1] * 39 + [thing], rest)

    def test_the_first_wrong_thing_is_told(self):
        for function, rest in self.calls():
            self.assert_filling(1, function, [1, None, 2, None], rest)
            self.assert_filling(2, function, [1, 0, False, "1", None], rest)

    def test_the_same_thing_twice_is_told_by_its_first_index(self):
        thing = [1]
        self.assert_filling(1, sort_by, [0, thing, thing], [])

    def test_fillings_within_bounds(self):
        for filling in ([0], [-5], [helpers.HUGE], [1] * 40, [Whole(3)]):
            self.assertEqual(sort_by(filling, []), filling)
            self.assertIs(is_sorted_by(filling, []), True)
            self.assertEqual(after_row(filling, []), filling)


class WrongFamilies(Wrong):
    """Each wrong family is handed in under each of its names, and as a part of each row."""

    def assert_everywhere(self, chain, index, places, family):
        filling = list(range(places))
        self.assert_family(chain, index, sort_by, filling, family)
        self.assert_family(chain, index, is_sorted_by, filling, family)
        for function in (keeps, breaking):
            self.assert_family(chain, index, function, places, family, [])
            self.assert_family(chain, index, function, places, [], family)
        for function in (sorts, unsorted):
            self.assert_family(chain, index, function, places, [], family)
        for at in (0, 2):
            row = [[[1]]] * at + [family] + [[], None]
            self.assert_row(at, chain, index, after_row, filling, row)
            self.assert_everywhere_as_row(at, chain, index, places, row)

    def test_no_list(self):
        for thing in helpers.things_that_are_no_lists():
            self.assert_everywhere(None, None, 3, thing)

    def test_chains_that_are_no_lists(self):
        for thing in helpers.things_that_are_no_lists():
            self.assert_everywhere(0, None, 3, [thing])
            self.assert_everywhere(2, None, 3, [[1], [], thing, [2]])

    def test_things_that_are_no_places(self):
        for thing in helpers.things_that_are_no_whole_numbers() + [0, -1, 4, 10 ** 70]:
            self.assert_everywhere(0, 0, 3, [[thing]])
            self.assert_everywhere(1, 2, 3, [[2], [1, 3, thing], [9]])

    def test_numbers_just_beyond_the_places(self):
        for places in (1, 2, 39, 40):
            self.assert_everywhere(0, 1, places, [[places, places + 1]])
            self.assert_everywhere(1, 0, places, [[places], [0]])

    def test_true_is_no_place_even_where_one_came_before(self):
        self.assert_everywhere(0, 0, 3, [[True]])
        self.assert_everywhere(0, 1, 3, [[1, True]])
        self.assert_everywhere(0, 1, 3, [[2, True, 1]])
        self.assert_everywhere(0, 1, 3, [[1, 1.0]])

    def test_places_that_came_before(self):
        self.assert_everywhere(0, 1, 3, [[1, 1]])
        self.assert_everywhere(0, 2, 3, [[3, 1, 3, 1]])
        self.assert_everywhere(1, 0, 3, [[2], [2]])
        self.assert_everywhere(2, 1, 5, [[1, 2], [], [4, 1, 5], [3]])
        self.assert_everywhere(3, 0, 5, [[1, 2], [3, 4], [5], [4]])

    def test_the_same_chain_object_twice(self):
        chain = [2, 1]
        self.assert_everywhere(1, 0, 2, [chain, chain])

    def test_whichever_is_met_first_is_told(self):
        self.assert_everywhere(0, 1, 3, [[1, 1, 0]])
        self.assert_everywhere(0, 1, 3, [[1, 0, 1]])
        self.assert_everywhere(0, 2, 3, [[1, 2, None], None])
        self.assert_everywhere(0, None, 3, [None, [1, 1]])
        self.assert_everywhere(1, 1, 3, [[1], [2, 1], "x", [7]])
        self.assert_everywhere(1, None, 3, [[1], (2,), [1]])

    def test_long_chains_and_families(self):
        self.assert_everywhere(0, 40, 40, [list(range(1, 41)) * 50])
        self.assert_everywhere(5000, 0, 3, [[]] * 5000 + [[4]])

    def test_places_of_a_class_of_their_own(self):
        self.assertEqual(sort_by([2, 1], [[Whole(1), 2]]), [1, 2])
        self.assert_everywhere(0, 1, 2, [[1, Whole(1)]])


class WrongRows(Wrong):
    def assert_everywhere(self, family, chain, index, places, row):
        self.assert_row(family, chain, index, after_row, list(range(places)), row)
        self.assert_everywhere_as_row(family, chain, index, places, row)

    def test_no_list(self):
        for thing in helpers.things_that_are_no_lists():
            self.assert_everywhere(None, None, None, 2, thing)

    def test_families_that_are_no_lists(self):
        for thing in helpers.things_that_are_no_lists():
            self.assert_everywhere(0, None, None, 2, [thing])
            self.assert_everywhere(2, None, None, 2, [[], [[1]], thing, []])

    def test_the_first_wrong_family_is_told(self):
        self.assert_everywhere(1, 0, 0, 2, [[[1, 2]], [[3]], None])
        self.assert_everywhere(1, 1, None, 2, [[[1, 2]], [[1], 2], [[0]]])
        self.assert_everywhere(0, None, None, 2, [5, [[3]]])

    def test_rows_beyond_the_bounds_are_checked_whole(self):
        self.assert_everywhere(59, 1, 1, 2, [[[1, 2]]] * 59 + [[[1], [2, 1]]])
        self.assert_everywhere(200, None, None, 40, [[[2, 1]]] * 200 + [None])

    def test_a_place_may_come_again_in_another_family(self):
        self.assertEqual(after_row([2, 1], [[[1, 2]], [[1, 2]], [[2, 1]]]), [2, 1])
        self.assertEqual(sure_pairs(2, [[[1, 2]], [[1, 2]], [[2, 1]]]), [(2, 1)])
        self.assertIs(keep_one_another(2, [[[1, 2]], [[1, 2]], [[2, 1]]]), False)

    def test_a_family_instead_of_a_row(self):
        self.assert_everywhere(0, 0, None, 2, [[1, 2]])


class OrderOfTheArguments(Wrong):
    def test_the_filling_comes_before_the_family_and_the_row(self):
        for function in (sort_by, is_sorted_by, after_row):
            self.assert_filling(None, function, [], None)
            self.assert_filling(1, function, [1, None], [[9]])

    def test_the_places_come_before_the_families(self):
        for function in (keeps, breaking):
            self.assertIs(helpers.caught(self, InvalidNumber, function, 0, None, None).number, 0)
            self.assertIs(helpers.caught(self, InvalidNumber, function, None, [[9]], [[9]]).number, None)

    def test_the_places_come_before_everything(self):
        for function, rest in BEHIND_PLACES:
            for wrong in (None, [None], [[None]], [[[9]]]):
                arguments = [wrong for _ in rest]
                self.assertIs(helpers.caught(self, InvalidNumber, function, 0, *arguments).number, 0)
                self.assertIs(helpers.caught(self, InvalidNumber, function, False, *arguments).number, False)

    def test_the_row_comes_before_the_family_and_the_other_row(self):
        for function in (sorts, unsorted, are_alike, parting):
            for wrong in (None, [None], [[None]], [[0]], [[[0]]]):
                self.assert_row(None, None, None, function, 3, (), wrong)
                self.assert_row(1, 0, 1, function, 3, [[[3]], [[1, 4]]], wrong)
        for function in (sorts, unsorted):
            self.assert_family(1, 0, function, 3, [[[3]], [[1, 2]]], [[1, 2], [2]])
        for function in (are_alike, parting):
            self.assert_row(1, 0, None, function, 3, [[[3]], [[1, 2]]], [[[1, 2]], [2]])

    def test_the_first_family_comes_before_the_second_one(self):
        for function in (keeps, breaking):
            self.assert_family(0, 1, function, 3, [[1, 4]], [[4]])
            self.assert_family(1, None, function, 3, [[1], None], None)
            self.assert_family(0, 0, function, 3, [[1]], [[4]])

    def test_the_order_is_that_of_the_parameters_also_by_name(self):
        with self.assertRaises(InvalidFilling):
            sort_by(family=None, filling=None)
        with self.assertRaises(InvalidFilling):
            after_row(row=None, filling=None)
        error = helpers.caught(self, InvalidFamily, keeps, second=None, first=[None], places=3)
        self.assertEqual((error.chain, error.index), (0, None))
        error = helpers.caught(self, InvalidNumber, breaking, second=None, first=[None], places=True)
        self.assertIs(error.number, True)
        error = helpers.caught(self, InvalidRow, sorts, family=None, row=[None], places=3)
        self.assertEqual((error.family, error.chain, error.index), (0, None, None))
        error = helpers.caught(self, InvalidRow, parting, other=None, row=[[None]], places=3)
        self.assertEqual((error.family, error.chain, error.index), (0, 0, None))
        error = helpers.caught(self, InvalidNumber, count_marks, families=None, places=41)
        self.assertEqual(error.number, 41)

    def test_the_later_argument_is_checked_also_where_it_is_not_needed(self):
        self.assert_family(0, 0, keeps, 1, [], [[2]])
        self.assert_family(1, 0, sort_by, [1, 2], [[1, 2], [2]])
        self.assert_family(1, 0, is_sorted_by, [2, 1], [[1, 2], [3]])
        self.assert_row(1, 0, 0, after_row, [2, 1], [[[1, 2]], [[3]]])
        self.assert_family(0, 0, sorts, 1, [], [[2]])
        self.assert_family(0, 0, unsorted, 1, [[[1]]], [[2]])
        self.assert_row(0, 0, 0, are_alike, 1, [], [[[2]]])
        self.assert_row(0, 0, 0, parting, 1, [[[1]]], [[[2]]])


class NothingIsChanged(Wrong):
    def test_a_call_that_raises_an_error_changes_nothing(self):
        filling, family, row = [3, 2, 1], [[1, 2, 3], [1]], [[[1, 2, 3]], [[4]]]
        before = copy.deepcopy((filling, family, row))
        for function in (sort_by, is_sorted_by):
            self.assert_family(1, 0, function, filling, family)
        self.assert_row(1, 0, 0, after_row, filling, row)
        for function in (keeps, breaking):
            self.assert_family(1, 0, function, 3, [[1, 2]], family)
        self.assert_everywhere_as_row(1, 0, 0, 3, row)
        for function in (sorts, unsorted):
            self.assert_family(1, 0, function, 4, row, family)
        self.assertEqual((filling, family, row), before)


if __name__ == "__main__":
    unittest.main()
