"""Point [2] and the first paragraph of the tables: when InvalidNumber is raised, with what, in which order."""

import copy
import unittest

from keptsorted.errors import InvalidNumber
from keptsorted.tables import axes, count_marked, count_tables, fewest_rounds, shear, snake, snakes
from tests import helpers

OF_TABLES = (snakes, snake, shear, count_tables, count_marked)
OF_ALL_TABLES = OF_TABLES + (fewest_rounds,)


class Whole(int):
    """A whole number of a class of its own."""


class Wrong(unittest.TestCase):
    def assert_number(self, thing, function, *arguments, **named):
        self.assertIs(helpers.caught(self, InvalidNumber, function, *arguments, **named).number, thing)


class WrongLengths(Wrong):
    def test_no_list(self):
        for thing in helpers.things_that_are_no_lists():
            self.assert_number(thing, axes, thing)
        for thing in ((2, 3), "23", {2: 3}, range(2, 4)):
            self.assert_number(thing, axes, thing)

    def test_no_list_of_so_many_things(self):
        for lengths in ([], [1] * 5, [1, 2, 3, 4, 5], [1] * 1000):
            self.assert_number(lengths, axes, lengths)

    def test_how_many_there_are_comes_before_what_they_are(self):
        for lengths in ([0] * 5, [None] * 5, [1, 1, 1, 1, 41]):
            self.assert_number(lengths, axes, lengths)

    def test_things_that_are_no_lengths(self):
        for thing in helpers.things_that_are_no_whole_numbers() + [0, -1, -40, 41, 10 ** 70, -10 ** 70]:
            for lengths in ([thing], [1, thing], [thing, 2], [2, 3, thing], [1, 1, 1, thing], [1, thing, 1, thing]):
                self.assert_number(thing, axes, lengths)

    def test_the_first_wrong_thing_is_told(self):
        first, second = [], []
        self.assert_number(first, axes, [1, first, second])
        self.assert_number(first, axes, [40, first, 0])
        self.assert_number(0, axes, [0, first])
        self.assert_number(second, axes, [2, 3, second, first])

    def test_the_things_come_before_their_product(self):
        self.assert_number(0, axes, [40, 40, 0])
        self.assert_number(None, axes, [40, 2, None])
        self.assert_number(True, axes, [40, 40, 40, True])
        self.assert_number(41, axes, [40, 41])

    def test_products_that_are_too_great(self):
        for lengths in ([2, 21], [21, 2], [20, 3], [40, 40], [40, 1, 2], [3, 3, 5], [2, 2, 2, 6], [40] * 4,
                        [7, 6], [1, 1, 2, 40]):
            self.assert_number(lengths, axes, lengths)

    def test_lengths_within_bounds(self):
        for lengths in ([1], [40], [1, 40], [40, 1, 1, 1], [2, 20], [2, 2, 2, 5], [3, 13], [Whole(2), Whole(3)]):
            self.assertEqual(len(axes(lengths)), len(lengths))


class WrongRowsAndColumns(Wrong):
    def test_rows_that_are_no_numbers_of_rows(self):
        for function in OF_ALL_TABLES:
            for thing in helpers.things_that_are_no_whole_numbers() + [0, -1, 41, 10 ** 70, -10 ** 70]:
                for columns in (1, 5, 40):
                    self.assert_number(thing, function, thing, columns)

    def test_columns_that_are_no_numbers_of_columns(self):
        for function in OF_ALL_TABLES:
            for thing in helpers.things_that_are_no_whole_numbers() + [0, -1, 41, 10 ** 70, -10 ** 70]:
                for rows in (1, 5, 12):
                    self.assert_number(thing, function, rows, thing)

    def test_the_rows_come_before_the_columns(self):
        for function in OF_ALL_TABLES:
            for columns in (0, None, True, 41, "1", []):
                for rows in (0, None, False, 41, "1", ()):
                    self.assert_number(rows, function, rows, columns)
                    self.assert_number(rows, function, columns=columns, rows=rows)

    def test_too_many_places(self):
        for function in OF_TABLES:
            for rows, columns in ((1, 41), (2, 21), (3, 14), (5, 9), (6, 7), (7, 6), (13, 4), (20, 3), (21, 2), (40, 2)):
                self.assert_number(columns, function, rows, columns)

    def test_forty_places_and_near_to_it(self):
        for function in OF_TABLES:
            for rows, columns in ((1, 40), (40, 1), (2, 20), (3, 13), (6, 6), (13, 3), (39, 1), (Whole(5), Whole(8))):
                function(rows, columns)

    def test_rounds_of_more_than_twelve_rows_or_places(self):
        for rows in (13, 14, 20, 40):
            self.assert_number(rows, fewest_rounds, rows, 1)
            self.assert_number(rows, fewest_rounds, rows, None)
        for rows, columns in ((1, 13), (1, 40), (2, 7), (3, 5), (4, 4), (5, 3), (6, 3), (7, 2), (12, 2)):
            self.assert_number(columns, fewest_rounds, rows, columns)
        for rows, columns in ((1, 12), (12, 1), (2, 6), (5, 2), (3, 4), (4, 3), (11, 1), (Whole(6), Whole(2))):
            fewest_rounds(rows, columns)

    def test_the_field_holds_the_thing_itself(self):
        for function in OF_ALL_TABLES:
            thing = [1]
            self.assert_number(thing, function, thing, 1)
            self.assert_number(thing, function, 1, thing)
            number = Whole(41)
            self.assert_number(number, function, number, 1)
            self.assert_number(number, function, 1, number)


class NothingIsChanged(Wrong):
    def test_a_call_that_raises_an_error_changes_nothing(self):
        for lengths in ([2, 21], [1, 0], [1, [2]], [1, 2, 3, 4, 5]):
            before = copy.deepcopy(lengths)
            with self.assertRaises(InvalidNumber):
                axes(lengths)
            self.assertEqual(lengths, before)


if __name__ == "__main__":
    unittest.main()
