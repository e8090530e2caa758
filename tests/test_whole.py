"""Points [1] and [4]: what several modules tell of the same things agrees."""

import itertools
import random
import unittest

from keptsorted.errors import InvalidFamily
from keptsorted.families import after_row, is_sorted_by
from keptsorted.gaps import gap_family, gaps_of, sums, sweeps_needed
from keptsorted.keeps import keeps
from keptsorted.plans import after_plan, cheapest, sorts_all, sweeps_of
from keptsorted.rows import are_alike, needless, sorts, sure_pairs
from keptsorted.sorter import Sorter
from keptsorted.tables import axes, shear, snake
from keptsorted.together import count_marks, count_orders, keep_one_another, orders, sure_together
from tests import helpers


def families_of(places, gaps):
    return [gap_family(places, gap) for gap in gaps]


class GapsAndRows(unittest.TestCase):
    def test_a_plan_sorts_all_exactly_if_the_families_of_its_gaps_do(self):
        for places in range(1, 8):
            line = [list(range(1, places + 1))]
            for plan in itertools.product(range(1, places + 1), repeat=2):
                self.assertIs(sorts(places, families_of(places, plan), line), sorts_all(places, list(plan)))

    def test_sure_pairs_after_gaps_in_any_order(self):
        for places, gaps in ((8, [3, 5]), (9, [2, 7]), (10, [6, 4, 9]), (12, [5]), (7, [])):
            far = sums(places, gaps)
            expected = [(one, two) for one, two in itertools.combinations(range(1, places + 1), 2) if two - one in far]
            self.assertEqual(sure_together(places, families_of(places, gaps)), expected)
            for order in itertools.permutations(gaps):
                self.assertEqual(sure_pairs(places, families_of(places, order)), expected)

    def test_a_gap_that_is_a_sum_is_needless_and_needs_no_sweeps(self):
        for places, gaps, gap in ((8, [3, 5], 6), (9, [2, 3], 7), (10, [4], 8), (6, [1], 5)):
            row = families_of(places, gaps + [gap])
            self.assertIn(len(gaps), needless(places, row))
            self.assertIs(are_alike(places, row, row[:-1]), True)
            self.assertEqual(sweeps_needed(places, gaps, gap), 0)
            self.assertEqual(sweeps_of(places, gaps + [gap])[-1], 0)

    def test_fillings_that_are_sorted_at_gaps_are_counted(self):
        for places, gaps in ((5, [2]), (5, [2, 3]), (6, [3, 4]), (6, [1])):
            families = families_of(places, gaps)
            wanted = set(sums(places, gaps))
            told = list(orders(places, families))
            found = [filling for filling in helpers.all_orders(places) if wanted <= set(gaps_of(filling))]
            self.assertEqual(told, found)
            self.assertEqual(count_orders(places, families), len(found))
            marks = [filling for filling in helpers.all_marks(places) if wanted <= set(gaps_of(filling))]
            self.assertEqual(count_marks(places, families), len(marks))

    def test_the_columns_of_a_table_are_the_family_of_a_gap(self):
        for rows in range(1, 41):
            for columns in range(1, 40 // rows + 1):
                self.assertEqual(axes([rows, columns])[0], gap_family(rows * columns, columns))

    def test_gaps_keep_one_another_and_rows_of_a_table(self):
        self.assertIs(keep_one_another(40, families_of(40, [1, 5, 8, 13, 20, 39])), True)
        self.assertIs(keeps(40, gap_family(40, 8), axes([5, 8])[1]), True)
        self.assertIs(keeps(40, axes([5, 8])[1], gap_family(40, 8)), True)


class SortersAndRows(unittest.TestCase):
    def test_a_run_does_what_after_row_does(self):
        source = random.Random(91)
        for _ in range(60):
            places = source.randint(1, 40)
            filling = [source.randint(-9, 9) for _ in range(places)]
            row = [helpers.some_family(source, places, 15) for _ in range(source.randint(0, 8))]
            sorter = Sorter(filling)
            told = list(sorter.run(row))
            self.assertEqual(told, [after_row(filling, row[:at + 1]) for at in range(len(row))])
            self.assertEqual(sorter.filling, after_row(filling, row))

    def test_a_run_of_rounds_sorts_by_the_snake(self):
        source = random.Random(92)
        for rows, columns in ((5, 8), (8, 5), (1, 40), (40, 1), (6, 6), (1, 1)):
            sorter = Sorter([source.randint(0, 99) for _ in range(rows * columns)])
            told = list(sorter.run(shear(rows, columns)))
            self.assertEqual(len(sorter), len(told))
            self.assertIs(sorter.is_sorted([snake(rows, columns)]), True)
            self.assertIs(is_sorted_by(told[-1], [snake(rows, columns)]), True)

    def test_the_sweeps_of_a_plan_are_deeds(self):
        source = random.Random(93)
        for places, plan in ((8, [5, 3, 1]), (12, cheapest(12, list(range(1, 13)))), (40, [17, 7, 3, 1])):
            filling = [source.randint(-99, 99) for _ in range(places)]
            sorter = Sorter(filling)
            for gap, number in zip(plan, sweeps_of(places, plan)):
                for _ in range(number):
                    sorter.sweep(gap)
            self.assertEqual(sorter.filling, after_plan(filling, plan))
            self.assertEqual(sorter.filling, sorted(filling))
            self.assertEqual(len(sorter), sum(sweeps_of(places, plan)))

    def test_the_same_fault_is_told_the_same_way(self):
        for family in (None, [[1], [1]], [[1], None], [[4]], [[1, 2, True]]):
            told = []
            for function, arguments in ((is_sorted_by, ([3, 2, 1], family)), (keeps, (3, family, [])),
                                        (sorts, (3, [], family)), (Sorter([3, 2, 1]).apply, (family,)),
                                        (Sorter([3, 2, 1]).is_sorted, (family,)),
                                        (next, (Sorter([3, 2, 1]).run([family]),))):
                error = helpers.caught(self, InvalidFamily, function, *arguments)
                told.append((error.chain, error.index))
            self.assertEqual(len(set(told)), 1)


if __name__ == "__main__":
    unittest.main()
