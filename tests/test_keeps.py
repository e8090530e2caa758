"""Points [7] and [8]: keeps, breaking."""

import itertools
import random
import time
import unittest

from keptsorted.families import is_sorted_by, sort_by
from keptsorted.keeps import breaking, keeps
from tests import helpers


class Keeping(unittest.TestCase):
    def check(self, places, first, second, expected=None):
        """Check that both functions agree, and that the filling shows what it should; gives the answer of keeps."""
        told = keeps(places, first, second)
        filling = breaking(places, first, second)
        self.assertIs(told, filling is None)
        if expected is not None:
            self.assertIs(told, expected)
        if filling is not None:
            self.assertIsInstance(filling, list)
            self.assertEqual(len(filling), places)
            self.assertTrue(all(type(value) is int and value in (0, 1) for value in filling))
            self.assertTrue(helpers.reference_is_sorted(filling, second))
            self.assertFalse(helpers.reference_is_sorted(helpers.reference_sorted(filling, first), second))
            self.assertIs(is_sorted_by(filling, second), True)
            self.assertIs(is_sorted_by(sort_by(filling, first), second), False)
        return told


class Examples(Keeping):
    def test_examples_of_the_document(self):
        self.assertIs(keeps(4, [[1, 2], [3, 4]], [[1, 3], [2, 4]]), True)
        self.assertEqual(breaking(3, [[2, 3]], [[1, 2]]), [1, 1, 0])
        self.assertIs(keeps(2, [[2, 1]], [[1, 2]]), False)
        self.assertIs(keeps(6, [[1, 2, 3, 4], [5, 6]], [[1, 2, 5], [3, 4, 6]]), True)
        self.assertIs(keeps(6, [[1, 2, 5], [3, 4, 6]], [[1, 2, 3, 4], [5, 6]]), False)


class Edges(Keeping):
    def test_one_place(self):
        for first in ([], [[]], [[1]]):
            for second in ([], [[]], [[1]]):
                self.check(1, first, second, True)

    def test_empty_families_and_single_places(self):
        some = [[1, 2, 3]]
        for nothing in ([], [[], []], [[1], [2], [3]], [[2], []]):
            self.check(3, nothing, some, True)
            self.check(3, some, nothing, True)
            self.check(3, nothing, nothing, True)

    def test_empty_chains_among_others(self):
        self.check(3, [[], [2, 3], []], [[], [1, 2]], False)
        self.check(4, [[], [1, 2], [3, 4]], [[1, 3], [], [2, 4], []], True)

    def test_a_family_keeps_itself_but_not_its_reverse(self):
        self.check(3, [[1, 2, 3]], [[1, 2, 3]], True)
        self.check(3, [[3, 2, 1]], [[1, 2, 3]], False)
        self.check(40, [list(range(1, 41))], [list(range(1, 41))], True)
        self.check(40, [list(range(40, 0, -1))], [list(range(1, 41))], False)

    def test_places_in_no_chain_of_the_first_family(self):
        self.check(3, [[1, 3]], [[1, 2, 3]], True)
        self.check(3, [[1, 2]], [[1, 3]], True)
        self.check(3, [[1, 2]], [[2, 3]], False)
        self.check(3, [[1, 2]], [[3, 2]], True)
        self.check(3, [[1, 2]], [[3, 1]], False)

    def test_places_in_no_chain_of_the_second_family(self):
        self.check(4, [[1, 3], [2, 4]], [[1, 2]], False)
        self.check(4, [[1, 3], [2, 4]], [[1, 2], [3, 4]], True)
        self.check(3, [[3, 1]], [[1, 2]], False)
        self.check(3, [[3, 1, 2]], [[1, 2]], True)

    def test_the_order_of_the_chains_does_not_matter(self):
        self.check(4, [[3, 4], [1, 2]], [[2, 4], [1, 3]], True)
        self.check(6, [[5, 6], [1, 2, 3, 4]], [[3, 4, 6], [1, 2, 5]], True)
        self.check(6, [[3, 4, 6], [1, 2, 5]], [[5, 6], [1, 2, 3, 4]], False)


class AllFillings(Keeping):
    def test_up_to_three_places_with_all_fillings(self):
        for places in (1, 2, 3):
            fillings = [list(values) for values in itertools.product(range(places), repeat=places)]
            for first in helpers.all_families(places):
                for second in helpers.all_families(places):
                    self.check(places, first, second, helpers.reference_keeps(first, second, fillings))

    def test_four_places_with_all_fillings_by_noughts_and_ones(self):
        answers = [self.check(4, first, second, expected) for first, second, expected in self.compared(4, 1)]
        self.assertEqual(len(answers), 73 * 73)
        self.assertTrue(any(answers))
        self.assertFalse(all(answers))

    def test_five_places_with_all_fillings_by_noughts_and_ones(self):
        answers = [self.check(5, first, second, expected) for first, second, expected in self.compared(5, 29)]
        self.assertTrue(any(answers))
        self.assertFalse(all(answers))

    def compared(self, places, step):
        """Pairs of families, of all such pairs each so-many-th, and whether the first one keeps the second one."""
        marks = helpers.all_marks(places)
        families = helpers.all_families(places)
        ordered = []
        after = []
        for family in families:
            ordered.append({str(filling) for filling in marks if helpers.reference_is_sorted(filling, family)})
            after.append({str(filling): str(helpers.reference_sorted(filling, family)) for filling in marks})
        pairs = list(itertools.product(range(len(families)), repeat=2))
        for one, two in pairs[::step]:
            expected = all(after[one][filling] in ordered[two] for filling in ordered[two])
            yield families[one], families[two], expected

    def test_more_places_with_all_fillings_by_noughts_and_ones(self):
        source = random.Random(9)
        for places, times in ((6, 150), (7, 80), (8, 40), (9, 15)):
            marks = helpers.all_marks(places)
            for _ in range(times):
                first = helpers.some_family(source, places, 15)
                second = helpers.some_family(source, places, 15)
                self.check(places, first, second, helpers.reference_keeps(first, second, marks))

    def test_families_near_to_tables_with_all_fillings_by_noughts_and_ones(self):
        # Unlike random families these often keep each other, so that both answers are met.
        source = random.Random(10)
        kept = 0
        for rows, columns in ((2, 3), (3, 2), (2, 4), (4, 2), (3, 3)) * 8:
            places = rows * columns
            first, second = helpers.table(rows, columns)
            order = list(range(rows))
            source.shuffle(order)
            first = [[chain[at] for at in order] for chain in first]
            if source.randrange(3) == 0:
                first[0] = first[0][:source.randint(0, rows)]
            if source.randrange(3) == 0:
                second[-1] = second[-1][source.randint(0, 2):]
            marks = helpers.all_marks(places)
            kept += self.check(places, first, second, helpers.reference_keeps(first, second, marks))
            kept += self.check(places, second, first, helpers.reference_keeps(second, first, marks))
        self.assertTrue(10 < kept < 70)


class Guarantees(Keeping):
    def test_keeping_goes_both_ways_where_no_chains_have_two_places_in_common(self):
        met = 0
        families = helpers.all_families(4)
        for first in families:
            for second in families:
                if all(len(set(one) & set(two)) < 2 for one in first for two in second):
                    met += 1
                    self.assertIs(keeps(4, first, second), keeps(4, second, first))
        self.assertGreater(met, 100)

    def test_rows_and_columns_keep_each_other(self):
        for rows, columns in ((1, 1), (1, 5), (2, 3), (3, 4), (5, 8), (8, 5), (20, 2), (1, 40), (40, 1)):
            first, second = helpers.table(rows, columns)
            self.check(rows * columns, first, second, True)
            self.check(rows * columns, second, first, True)

    def test_all_gaps_keep_each_other(self):
        for places in (1, 2, 7, 13):
            for one in range(1, places + 1):
                for two in range(1, places + 1):
                    first, second = helpers.gap_chains(places, one), helpers.gap_chains(places, two)
                    self.check(places, first, second, True)

    def test_gaps_keep_each_other_at_forty_places(self):
        for one, two in itertools.product((1, 2, 3, 7, 10, 19, 39, 40), repeat=2):
            self.check(40, helpers.gap_chains(40, one), helpers.gap_chains(40, two), True)


class FortyPlaces(Keeping):
    def timed(self, first, second, expected=None):
        """Check an answer, and that it came within ten seconds."""
        start = time.perf_counter()
        keeps(40, first, second)
        self.assertLess(time.perf_counter() - start, 10)
        start = time.perf_counter()
        breaking(40, first, second)
        self.assertLess(time.perf_counter() - start, 10)
        return self.check(40, first, second, expected)

    def test_chains_of_all_lengths(self):
        source = random.Random(11)
        for one in (1, 2, 3, 4, 7, 13, 20, 40):
            for two in (1, 2, 3, 4, 7, 13, 20, 40):
                places = list(range(1, 41))
                source.shuffle(places)
                first = [places[start:start + one] for start in range(0, 40, one)]
                source.shuffle(places)
                second = [places[start:start + two] for start in range(0, 40, two)]
                self.timed(first, second)

    def test_long_searches_without_a_filling(self):
        for rows in (1, 2, 4, 5, 8, 10, 20, 40):
            first, second = helpers.table(rows, 40 // rows)
            self.timed(first, second, True)
            self.timed(second, first, True)

    def test_tables_with_and_without_a_fault(self):
        first, second = helpers.table(20, 2)
        first[0] = first[0][:19]
        first.append([20 * 2 - 1])
        self.timed(first, second, False)
        # With two of its rows exchanged a table stays one.
        first, second = helpers.table(4, 10)
        first = [[chain[0], chain[2], chain[1], chain[3]] for chain in first]
        self.timed(first, second, True)
        first[9].reverse()
        self.timed(first, second, False)

    def test_any_number_of_empty_chains(self):
        first, second = helpers.table(8, 5)
        empty = [[] for _ in range(100000)]
        self.timed(empty + first, second + empty, True)
        self.timed(second + empty, empty + first, True)


class ArgumentsAndAnswers(Keeping):
    def test_no_argument_is_changed_and_every_list_is_new(self):
        first, second = [[2, 3], []], [[1, 2], []]
        self.assertIs(helpers.assert_leaves_alone(self, keeps, 3, first, second), False)
        self.assertEqual(helpers.assert_leaves_alone(self, breaking, 3, first, second), [1, 1, 0])
        self.assertIs(helpers.assert_leaves_alone(self, keeps, 3, second, second), True)
        self.assertIsNone(helpers.assert_leaves_alone(self, breaking, 3, second, second))

    def test_arguments_by_name(self):
        self.assertIs(keeps(second=[[1, 2]], first=[[2, 3]], places=3), False)
        self.assertEqual(breaking(second=[[1, 2]], first=[[2, 3]], places=3), [1, 1, 0])
        self.assertIs(keeps(6, second=[[1, 2, 5], [3, 4, 6]], first=[[1, 2, 3, 4], [5, 6]]), True)


if __name__ == "__main__":
    unittest.main()
