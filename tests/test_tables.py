"""Points [13] and [14]: keptsorted.tables."""

import itertools
import math
import random
import unittest

from keptsorted.families import after_row, is_sorted_by, sort_by
from keptsorted.keeps import keeps
from keptsorted.rows import sorts, unsorted
from keptsorted.tables import axes, count_marked, count_tables, fewest_rounds, shear, snake, snakes
from keptsorted.together import count_marks, count_orders, keep_one_another, orders
from tests import helpers


def all_lengths(most):
    """All lists of one to four side lengths of boxes with at most so many places."""
    found = []
    for sides in (1, 2, 3, 4):
        for lengths in itertools.product(range(1, most + 1), repeat=sides):
            if math.prod(lengths) <= most:
                found.append(list(lengths))
    return found


def all_tables(most):
    """The numbers of rows and columns of all tables with at most so many places."""
    return [(rows, columns) for rows in range(1, most + 1) for columns in range(1, most // rows + 1)]


def reference_axes(lengths):
    """The families of a box by the positions of its places."""
    spots = list(itertools.product(*(range(length) for length in lengths)))
    families = []
    for side in range(len(lengths)):
        chains = {}
        for place, spot in enumerate(spots, 1):
            chains.setdefault(spot[:side] + spot[side + 1:], []).append(place)
        families.append(sorted(chains.values()))
    return families


def reference_snakes(rows, columns):
    _, lines = helpers.table(rows, columns)
    lines[1::2] = [line[::-1] for line in lines[1::2]]
    return lines


def reference_rounds(rows, columns):
    """The least number of rounds, by all fillings by 0 and 1."""
    line = [[place for chain in reference_snakes(rows, columns) for place in chain]]
    fillings = helpers.all_marks(rows * columns)
    for rounds in itertools.count():
        last = [helpers.reference_sorted(filling, reference_snakes(rows, columns)) for filling in fillings]
        if all(helpers.reference_is_sorted(filling, line) for filling in last):
            return rounds
        columns_only = helpers.table(rows, columns)[0]
        fillings = [helpers.reference_sorted(filling, columns_only) for filling in last]


def halvings(number):
    """How often a number is halved, rounded up, until it is 1."""
    return (number - 1).bit_length()


class Examples(unittest.TestCase):
    def test_examples_of_the_document(self):
        self.assertEqual(axes([2, 3]), [[[1, 4], [2, 5], [3, 6]], [[1, 2, 3], [4, 5, 6]]])
        self.assertEqual(snakes(2, 3), [[1, 2, 3], [6, 5, 4]])
        self.assertEqual(snake(3, 2), [1, 2, 4, 3, 5, 6])
        self.assertEqual(shear(2, 2), [[[1, 2], [4, 3]], [[1, 3], [2, 4]], [[1, 2], [4, 3]]])
        self.assertEqual(len(shear(5, 2)), 7)
        self.assertEqual(fewest_rounds(1, 5), 0)
        self.assertEqual(count_tables(2, 3), 5)
        self.assertEqual(count_marked(2, 3), 10)


class Axes(unittest.TestCase):
    def test_one_side(self):
        self.assertEqual(axes([1]), [[[1]]])
        self.assertEqual(axes([4]), [[[1, 2, 3, 4]]])
        self.assertEqual(axes([40]), [[list(range(1, 41))]])

    def test_sides_of_length_one(self):
        self.assertEqual(axes([1, 3]), [[[1], [2], [3]], [[1, 2, 3]]])
        self.assertEqual(axes([3, 1]), [[[1, 2, 3]], [[1], [2], [3]]])
        self.assertEqual(axes([1, 1, 1, 1]), [[[1]], [[1]], [[1]], [[1]]])
        self.assertEqual(axes([1, 2, 1]), [[[1], [2]], [[1, 2]], [[1], [2]]])

    def test_the_last_side_runs_fastest(self):
        self.assertEqual(axes([2, 2, 2]), [
            [[1, 5], [2, 6], [3, 7], [4, 8]], [[1, 3], [2, 4], [5, 7], [6, 8]], [[1, 2], [3, 4], [5, 6], [7, 8]],
        ])
        self.assertEqual(axes([1, 2, 3])[1:], axes([2, 3]))

    def test_all_boxes(self):
        met = all_lengths(40)
        self.assertEqual({len(lengths) for lengths in met}, {1, 2, 3, 4})
        for lengths in met:
            self.assertEqual(axes(lengths), reference_axes(lengths))

    def test_the_families_of_a_table_are_its_columns_and_its_rows(self):
        for rows, columns in all_tables(40):
            self.assertEqual(axes([rows, columns]), list(helpers.table(rows, columns)))

    def test_the_families_of_a_box_keep_one_another(self):
        for lengths in all_lengths(12) + [lengths for lengths in all_lengths(40) if math.prod(lengths) == 40]:
            self.assertIs(keep_one_another(math.prod(lengths), axes(lengths)), True)
        for lengths in ([2, 3, 2, 3], [3, 3, 4], [1, 39], [6, 6]):
            for one, two in itertools.permutations(axes(lengths), 2):
                self.assertIs(keeps(math.prod(lengths), one, two), True)

    def test_sorting_by_all_sides_in_any_order(self):
        source = random.Random(41)
        for lengths in ([2, 5, 4], [2, 2, 2, 5], [3, 13], [40]):
            for order in itertools.permutations(axes(lengths)):
                filling = [source.randint(-50, 50) for _ in range(math.prod(lengths))]
                after = after_row(filling, list(order))
                self.assertTrue(all(is_sorted_by(after, family) for family in order))


class Snakes(unittest.TestCase):
    def test_one_row_one_column_and_one_place(self):
        self.assertEqual(snakes(1, 1), [[1]])
        self.assertEqual(snakes(1, 4), [[1, 2, 3, 4]])
        self.assertEqual(snakes(3, 1), [[1], [2], [3]])
        self.assertEqual(snake(1, 1), [1])
        self.assertEqual(snake(1, 4), [1, 2, 3, 4])
        self.assertEqual(snake(3, 1), [1, 2, 3])
        self.assertEqual(snake(40, 1), list(range(1, 41)))
        self.assertEqual(snake(1, 40), list(range(1, 41)))

    def test_the_rows_go_forward_and_backwards_in_turns(self):
        self.assertEqual(snakes(4, 3), [[1, 2, 3], [6, 5, 4], [7, 8, 9], [12, 11, 10]])
        self.assertEqual(snake(4, 3), [1, 2, 3, 6, 5, 4, 7, 8, 9, 12, 11, 10])

    def test_all_tables(self):
        for rows, columns in all_tables(40):
            self.assertEqual(snakes(rows, columns), reference_snakes(rows, columns))
            self.assertEqual(snake(rows, columns), sum(reference_snakes(rows, columns), []))


class Shear(unittest.TestCase):
    def test_one_row_one_column_and_one_place(self):
        self.assertEqual(shear(1, 1), [[[1]]])
        self.assertEqual(shear(1, 3), [[[1, 2, 3]]])
        self.assertEqual(shear(2, 1), [[[1], [2]], [[1, 2]], [[1], [2]]])

    def test_all_tables(self):
        for rows, columns in all_tables(40):
            a_round = [reference_snakes(rows, columns), helpers.table(rows, columns)[0]]
            self.assertEqual(shear(rows, columns), a_round * halvings(rows) + a_round[:1])

    def test_the_number_of_rounds(self):
        told = [(len(shear(rows, 1)) - 1) // 2 for rows in (1, 2, 3, 4, 5, 8, 9, 16, 17, 32, 33, 40)]
        self.assertEqual(told, [0, 1, 2, 2, 3, 3, 4, 4, 5, 5, 6, 6])

    def test_after_it_every_filling_of_a_small_table_is_sorted_by_the_snake(self):
        for rows, columns in all_tables(10):
            for filling in helpers.all_marks(rows * columns):
                self.assertIs(is_sorted_by(after_row(filling, shear(rows, columns)), [snake(rows, columns)]), True)

    def test_after_it_larger_tables_are_sorted_by_the_snake(self):
        source = random.Random(42)
        for rows, columns in all_tables(40):
            places = rows * columns
            for filling in (source.sample(range(places), places), [source.randrange(2) for _ in range(places)]):
                after = after_row(filling, shear(rows, columns))
                self.assertEqual([after[place - 1] for place in snake(rows, columns)], sorted(filling))


class MixedRows(unittest.TestCase):
    """Point [14]: how many rows hold both 0 and 1 after each round."""

    def mixed(self, filling, lines):
        return sum(len({filling[place - 1] for place in line}) > 1 for line in lines)

    def check(self, rows, columns, filling):
        most = rows
        for _ in range(halvings(rows) + 1):
            filling = sort_by(sort_by(filling, snakes(rows, columns)), axes([rows, columns])[0])
            most = (most + 1) // 2
            mixed = self.mixed(filling, axes([rows, columns])[1])
            self.assertLessEqual(mixed, most)
            most = mixed
        self.assertLessEqual(most, 1)

    def test_all_fillings_of_small_tables(self):
        for rows, columns in all_tables(9):
            for filling in helpers.all_marks(rows * columns):
                self.check(rows, columns, filling)

    def test_larger_tables(self):
        source = random.Random(43)
        for rows, columns in all_tables(40):
            for _ in range(10):
                self.check(rows, columns, [int(source.randrange(columns + 1) > 0) for _ in range(rows * columns)])


class FewestRounds(unittest.TestCase):
    def test_one_row_one_column_and_one_place(self):
        for columns in range(1, 13):
            self.assertEqual(fewest_rounds(1, columns), 0)
        for rows in range(2, 13):
            self.assertEqual(fewest_rounds(rows, 1), 1)

    def test_all_tables_of_up_to_nine_places_with_all_fillings(self):
        for rows, columns in all_tables(9):
            self.assertEqual(fewest_rounds(rows, columns), reference_rounds(rows, columns))

    def test_all_tables(self):
        for rows, columns in all_tables(12):
            told = helpers.assert_in_time(self, fewest_rounds, rows, columns)
            self.assertIs(type(told), int)
            self.assertLessEqual(told, halvings(rows))
            a_round = [snakes(rows, columns), axes([rows, columns])[0]]
            line = [snake(rows, columns)]
            self.assertIs(sorts(rows * columns, a_round * told + a_round[:1], line), True)
            for fewer in range(told):
                filling = unsorted(rows * columns, a_round * fewer + a_round[:1], line)
                self.assertIs(is_sorted_by(after_row(filling, a_round * fewer + a_round[:1]), line), False)

    def test_tables_of_two_or_more_columns(self):
        self.assertEqual([fewest_rounds(rows, 2) for rows in range(2, 7)], [1, 2, 2, 2, 2])
        self.assertEqual([fewest_rounds(rows, 3) for rows in range(2, 5)], [1, 2, 2])


class CountTables(unittest.TestCase):
    def test_one_row_one_column_and_one_place(self):
        for length in range(1, 41):
            self.assertEqual(count_tables(1, length), 1)
            self.assertEqual(count_tables(length, 1), 1)

    def test_all_tables_of_up_to_eight_places_with_all_fillings(self):
        for rows, columns in all_tables(8):
            families = helpers.table(rows, columns)
            self.assertEqual(count_tables(rows, columns), sum(
                all(helpers.reference_is_sorted(filling, family) for family in families)
                for filling in helpers.all_orders(rows * columns)
            ))

    def test_what_the_other_modules_count_and_go_through(self):
        for rows, columns in all_tables(14):
            families = axes([rows, columns])
            self.assertEqual(count_tables(rows, columns), count_orders(rows * columns, families))
            self.assertEqual(count_tables(rows, columns), len(list(orders(rows * columns, families))))

    def test_two_rows(self):
        for columns in range(1, 21):
            expected = math.comb(2 * columns, columns) // (columns + 1)
            self.assertEqual(count_tables(2, columns), expected)
            self.assertEqual(count_tables(columns, 2), expected)

    def test_forty_places_and_near_to_it(self):
        self.assertEqual(count_tables(3, 3), 42)
        self.assertEqual(count_tables(4, 4), 24024)
        self.assertEqual(count_tables(5, 5), 701149020)
        self.assertEqual(count_tables(6, 6), 1671643033734960)
        self.assertEqual(count_tables(5, 8), count_tables(8, 5))
        self.assertEqual(count_tables(5, 8), self.chosen_row_by_row((8,) * 5, {}))
        self.assertEqual(count_tables(10, 4), self.chosen_row_by_row((4,) * 10, {}))

    def chosen_row_by_row(self, lengths, known):
        """How many ways there are to take the greatest number away, then the next one, and so on."""
        if not any(lengths):
            return 1
        if lengths not in known:
            ends = [at for at, length in enumerate(lengths) if length and length > (lengths + (0,))[at + 1]]
            known[lengths] = sum(
                self.chosen_row_by_row(lengths[:at] + (lengths[at] - 1,) + lengths[at + 1:], known) for at in ends
            )
        return known[lengths]


class CountMarked(unittest.TestCase):
    def test_one_row_one_column_and_one_place(self):
        for length in range(1, 41):
            self.assertEqual(count_marked(1, length), length + 1)
            self.assertEqual(count_marked(length, 1), length + 1)

    def test_all_tables_of_up_to_twelve_places_with_all_fillings(self):
        for rows, columns in all_tables(12):
            families = helpers.table(rows, columns)
            self.assertEqual(count_marked(rows, columns), sum(
                all(is_sorted_by(filling, family) for family in families)
                for filling in helpers.all_marks(rows * columns)
            ))

    def test_what_the_other_module_counts(self):
        for rows, columns in all_tables(14):
            self.assertEqual(count_marked(rows, columns), count_marks(rows * columns, axes([rows, columns])))

    def test_forty_places(self):
        self.assertEqual(count_marked(5, 8), 1287)
        self.assertEqual(count_marked(20, 2), 231)
        self.assertEqual(count_marked(4, 10), 1001)


class InTime(unittest.TestCase):
    def test_all_tables_and_boxes(self):
        for rows, columns in all_tables(40):
            for function in (snakes, snake, shear, count_tables, count_marked):
                helpers.assert_in_time(self, function, rows, columns)
        for lengths in ([40], [1, 1, 1, 40], [40, 1, 1, 1], [2, 2, 2, 5]):
            helpers.assert_in_time(self, axes, lengths)


class ArgumentsAndAnswers(unittest.TestCase):
    def test_no_argument_is_changed_and_every_list_is_new(self):
        for lengths in ([3], [2, 3], [1, 2, 3], [2, 1, 1, 2]):
            helpers.assert_leaves_alone(self, axes, lengths)
        for rows, columns in ((1, 1), (1, 4), (4, 1), (2, 3), (5, 2)):
            for function in (snakes, snake, shear, fewest_rounds, count_tables, count_marked):
                helpers.assert_leaves_alone(self, function, rows, columns)

    def test_changes_to_an_answer_have_no_effect(self):
        for function, arguments in ((axes, ([2, 2],)), (snakes, (2, 2)), (snake, (2, 2)), (shear, (2, 2))):
            expected = function(*arguments)
            told = function(*arguments)
            told[0] = None
            told[1:] = [[] for _ in told]
            self.assertEqual(function(*arguments), expected)
        told = axes([2, 2]) + shear(2, 2)
        for family in told:
            family[0].clear()
        self.assertEqual(axes([2, 2])[0][0], [1, 3])
        self.assertEqual(shear(2, 2)[0][0], [1, 2])

    def test_arguments_by_name(self):
        self.assertEqual(axes(lengths=[1, 2]), [[[1], [2]], [[1, 2]]])
        self.assertEqual(snakes(columns=3, rows=2), [[1, 2, 3], [6, 5, 4]])
        self.assertEqual(snake(columns=2, rows=3), [1, 2, 4, 3, 5, 6])
        self.assertEqual(shear(columns=3, rows=1), [[[1, 2, 3]]])
        self.assertEqual(fewest_rounds(columns=1, rows=3), 1)
        self.assertEqual(count_tables(columns=3, rows=2), 5)
        self.assertEqual(count_marked(columns=3, rows=1), 4)


if __name__ == "__main__":
    unittest.main()
