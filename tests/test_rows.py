"""Points [7], [10] and [11]: keptsorted.rows."""

import itertools
import random
import unittest

from keptsorted.families import after_row, is_sorted_by
from keptsorted.keeps import keeps
from keptsorted.rows import are_alike, needless, parting, sorts, sure_pairs, unsorted
from tests import helpers


def some_rows(source, places, times, longest=4):
    """Rows by a random source, also with places in no chain."""
    return [[helpers.some_family(source, places, 15) for _ in range(source.randint(0, longest))] for _ in range(times)]


def reference_pairs(places, row, fillings):
    """The pairs of unlike places of which the first one is never greater after a row, by going through fillings."""
    after = [helpers.reference_after_row(filling, row) for filling in fillings]
    return [
        (one, two)
        for one, two in itertools.permutations(range(1, places + 1), 2)
        if all(values[one - 1] <= values[two - 1] for values in after)
    ]


def reference_unsorted(places, row, family):
    for filling in helpers.marks_in_order(places):
        if not helpers.reference_is_sorted(helpers.reference_after_row(filling, row), family):
            return filling
    return None


def reference_parting(places, row, other):
    for filling in helpers.marks_in_order(places):
        if helpers.reference_after_row(filling, row) != helpers.reference_after_row(filling, other):
            return filling
    return None


class Examples(unittest.TestCase):
    def test_examples_of_the_document(self):
        self.assertEqual(sure_pairs(3, [[[1, 2]], [[2, 3]]]), [(1, 3), (2, 3)])
        self.assertEqual(unsorted(3, [[[1, 2]], [[2, 3]]], [[1, 2, 3]]), [1, 1, 0])
        self.assertIs(sorts(3, [[[1, 2]], [[2, 3]], [[1, 2]]], [[1, 2, 3]]), True)
        self.assertIs(are_alike(3, [[[1, 2]], [[2, 3]], [[1, 2]]], [[[1, 2, 3]]]), True)
        self.assertEqual(parting(3, [[[1, 2]]], [[[2, 1]]]), [0, 1, 0])
        self.assertEqual(needless(3, [[[1, 2]], [[1, 2]], [[2, 3]]]), [0, 1])


class SurePairs(unittest.TestCase):
    def test_one_place(self):
        for row in ([], [[]], [[[]]], [[[1]]], [[[1]]] * 8):
            self.assertEqual(sure_pairs(1, row), [])

    def test_nothing_is_sure_after_nothing(self):
        for row in ([], [[]], [[[], []]], [[[1], [2], [3]], []]):
            self.assertEqual(sure_pairs(3, row), [])

    def test_one_family(self):
        self.assertEqual(sure_pairs(3, [[[1, 2, 3]]]), [(1, 2), (1, 3), (2, 3)])
        self.assertEqual(sure_pairs(4, [[[4, 2], [3]]]), [(4, 2)])
        self.assertEqual(sure_pairs(5, [[[5, 1, 3], [], [4, 2]]]), [(1, 3), (4, 2), (5, 1), (5, 3)])

    def test_the_last_family_counts_where_one_undoes_the_other(self):
        self.assertEqual(sure_pairs(2, [[[1, 2]], [[2, 1]]]), [(2, 1)])
        self.assertEqual(sure_pairs(2, [[[2, 1]], [[1, 2]]]), [(1, 2)])
        self.assertEqual(sure_pairs(3, [[[1, 2, 3]], [[3, 2, 1]]]), [(2, 1), (3, 1), (3, 2)])

    def test_answers_are_tuples_of_whole_numbers(self):
        told = sure_pairs(3, [[[1, 2, 3]]])
        self.assertIs(type(told), list)
        for pair in told:
            self.assertIs(type(pair), tuple)
            self.assertEqual([type(place) for place in pair], [int, int])

    def test_all_rows_of_two_families_of_three_places_with_all_fillings(self):
        families = helpers.all_families(3)
        for row in itertools.product(families, repeat=2):
            for fillings in (helpers.all_marks(3), helpers.all_orders(3), helpers.all_values(3, 3)):
                self.assertEqual(sure_pairs(3, list(row)), reference_pairs(3, list(row), fillings))

    def test_more_rows_with_noughts_and_ones_and_with_unlike_values(self):
        source = random.Random(21)
        for places, times in ((4, 60), (5, 25), (6, 5)):
            for row in some_rows(source, places, times):
                told = sure_pairs(places, row)
                self.assertEqual(told, sorted(told))
                self.assertEqual(told, reference_pairs(places, row, helpers.all_marks(places)))
                self.assertEqual(told, reference_pairs(places, row, helpers.all_orders(places)))

    def test_twelve_places(self):
        line = list(range(1, 13))
        upward = list(itertools.combinations(line, 2))
        self.assertEqual(sure_pairs(12, [[line]]), upward)
        self.assertEqual(sure_pairs(12, [[line[::-1]]]), sorted((two, one) for one, two in upward))
        columns, lines = helpers.table(3, 4)
        together = [
            (one, two) for one, two in upward
            if (one - 1) // 4 <= (two - 1) // 4 and (one - 1) % 4 <= (two - 1) % 4
        ]
        for row in ([columns, lines], [lines, columns], [lines, columns] * 4):
            self.assertEqual(sure_pairs(12, row), together)


class PairsOfTwoFamilies(unittest.TestCase):
    """Point [10]: the first family's chains after the second one."""

    def assert_told_by_keeping(self, places, first, second):
        sure = sure_pairs(places, [first, second])
        told = all(pair in sure for chain in first for pair in zip(chain, chain[1:]))
        self.assertIs(told, keeps(places, second, first))
        return told

    def test_all_pairs_of_families_of_up_to_four_places(self):
        for places in (1, 2, 3, 4):
            families = helpers.all_families(places)
            told = [self.assert_told_by_keeping(places, one, two) for one in families for two in families]
            self.assertIs(all(told), places == 1)
            self.assertTrue(any(told))

    def test_more_places(self):
        source = random.Random(22)
        for places in (5, 6, 7, 8, 12):
            for _ in range(25):
                one, two = (helpers.some_family(source, places, 15) for _ in range(2))
                self.assert_told_by_keeping(places, one, two)
        columns, lines = helpers.table(4, 3)
        self.assertTrue(self.assert_told_by_keeping(12, columns, lines))
        self.assertTrue(self.assert_told_by_keeping(12, lines, columns))
        self.assertFalse(self.assert_told_by_keeping(12, lines, helpers.turned_about(lines)))

    def test_only_one_of_two_families_keeps_the_other_one(self):
        one, two = [[1, 2, 3, 4], [5, 6]], [[1, 2, 5], [3, 4, 6]]
        self.assertIs(self.assert_told_by_keeping(6, two, one), True)
        self.assertIs(self.assert_told_by_keeping(6, one, two), False)


class Unsorted(unittest.TestCase):
    def check(self, places, row, family):
        """Compare both functions with a reference; gives the answer of unsorted."""
        expected = reference_unsorted(places, row, family)
        self.assertEqual(unsorted(places, row, family), expected)
        self.assertIs(sorts(places, row, family), expected is None)
        return expected

    def test_one_place_and_empty_things(self):
        for row in ([], [[]], [[[1]], [[]]]):
            for family in ([], [[]], [[1]], [[], [1]]):
                self.assertIsNone(unsorted(1, row, family))
                self.assertIs(sorts(1, row, family), True)
        for family in ([], [[]], [[3], [], [1]]):
            self.assertIsNone(unsorted(3, [[[1, 2]]], family))
            self.assertIs(sorts(3, [], family), True)

    def test_the_empty_row(self):
        self.assertEqual(unsorted(3, [], [[1, 2, 3]]), [0, 1, 0])
        self.assertEqual(unsorted(3, [], [[3, 2, 1]]), [0, 0, 1])
        self.assertEqual(unsorted(3, [], [[1, 3]]), [1, 0, 0])

    def test_those_with_fewer_ones_come_first_then_as_lists_are_ordered(self):
        # In each of the first three rows the second filling comes to be unsorted, too, and is the lesser list.
        for places, row, family, first, second in (
            (3, [[[3, 2]]], [[3, 1, 2]], [1, 0, 0], [0, 1, 1]),
            (4, [[[2, 4]]], [[1, 4], [2, 3]], [1, 0, 0, 0], [0, 1, 0, 1]),
            (4, [[[4, 3]]], [[4, 1, 3]], [1, 0, 0, 0], [0, 0, 1, 1]),
            (4, [[[1, 2, 3, 4]]], [[3, 2]], [0, 0, 1, 1], [0, 0, 1, 1]),
            (4, [], [[1, 2], [3, 4]], [0, 0, 1, 0], [0, 0, 1, 0]),
        ):
            self.assertEqual(self.check(places, row, family), first)
            self.assertIs(is_sorted_by(after_row(second, row), family), False)

    def test_the_filling_is_told_as_it_was_before_the_row(self):
        filling = unsorted(3, [[[1, 2]], [[2, 3]]], [[1, 2, 3]])
        self.assertEqual(filling, [1, 1, 0])
        self.assertEqual(after_row(filling, [[[1, 2]], [[2, 3]]]), [1, 0, 1])
        self.assertEqual(self.check(2, [[[2, 1]]], [[1, 2]]), [0, 1])

    def test_all_rows_of_two_families_of_three_places(self):
        families = helpers.all_families(3)
        told = [self.check(3, [one, two], family) for one, two, family in itertools.product(families, repeat=3)]
        self.assertTrue(any(filling is None for filling in told))
        self.assertTrue(any(filling is not None for filling in told))

    def test_more_rows(self):
        source = random.Random(23)
        for places, times in ((4, 100), (5, 60), (6, 30), (7, 15), (8, 8)):
            for row in some_rows(source, places, times):
                self.check(places, row, helpers.some_family(source, places, 30))
                # These differ from the sorted line at its end only, so that more is sorted.
                self.check(places, row + [[list(range(1, places))]], [[1, 2], [places - 1, places]])

    def test_whether_every_filling_is_sorted_whatever_the_values_are(self):
        source = random.Random(24)
        sorted_rows = 0
        for row in some_rows(source, 4, 60, 3):
            for family in [helpers.some_family(source, 4, 50)] + row:
                for fillings in (helpers.all_orders(4), helpers.all_values(4, 3)):
                    expected = all(
                        helpers.reference_is_sorted(helpers.reference_after_row(filling, row), family)
                        for filling in fillings
                    )
                    self.assertIs(sorts(4, row, family), expected)
                sorted_rows += expected
        self.assertGreater(sorted_rows, 20)

    def test_neighbours_in_turns_sort_eight_places_by_eight_families(self):
        even, odd = helpers.bricks(8)
        line = [list(range(1, 9))]
        self.assertIs(sorts(8, [even, odd] * 4, line), True)
        self.assertIs(sorts(8, [odd, even] * 4, line), True)
        self.assertIs(sorts(8, [even, odd] * 3 + [even], line), False)
        self.check(8, [even, odd] * 3 + [even], line)

    def test_twelve_places_and_eight_families(self):
        even, odd = helpers.bricks(12)
        line = [list(range(1, 13))]
        filling = unsorted(12, [even, odd] * 4, line)
        self.assertIs(is_sorted_by(after_row(filling, [even, odd] * 4), line), False)
        earlier = itertools.takewhile(lambda marks: marks != filling, helpers.marks_in_order(12))
        for marks in earlier:
            self.assertIs(is_sorted_by(after_row(marks, [even, odd] * 4), line), True)
        self.assertIs(sorts(12, [even, odd] * 4, line), False)
        self.assertIs(sorts(12, [even, odd] * 3 + [even, line], line), True)
        self.assertIs(sorts(12, [even, odd] * 3 + [line, helpers.turned_about(line)], line), False)


class Parting(unittest.TestCase):
    def check(self, places, row, other):
        """Compare both functions with a reference, both ways; gives the answer of parting."""
        expected = reference_parting(places, row, other)
        for one, two in ((row, other), (other, row)):
            self.assertEqual(parting(places, one, two), expected)
            self.assertIs(are_alike(places, one, two), expected is None)
        return expected

    def test_one_place_and_empty_things(self):
        for places in (1, 3):
            for one, two in itertools.product(([], [[]], [[[]], []], [[[1]]]), repeat=2):
                self.assertIsNone(self.check(places, one, two))

    def test_the_empty_row(self):
        self.assertEqual(self.check(2, [], [[[1, 2]]]), [1, 0])
        self.assertEqual(self.check(2, [], [[[2, 1]]]), [0, 1])
        self.assertEqual(self.check(3, [], [[[3, 2, 1]]]), [0, 0, 1])

    def test_families_turned_about(self):
        self.assertEqual(self.check(2, [[[1, 2]]], [[[2, 1]]]), [0, 1])
        self.assertEqual(self.check(3, [[[1, 3]]], [[[3, 1]]]), [0, 0, 1])
        self.assertIsNone(self.check(3, [[[1, 2, 3]], [[3, 2, 1]]], [[[3, 2, 1]]]))

    def test_the_order_of_chains_does_not_matter_but_that_of_families_does(self):
        self.assertIsNone(self.check(4, [[[1, 2], [3, 4]]], [[[3, 4], [], [1, 2]]]))
        self.assertIsNone(self.check(4, [[[1, 2], [3, 4]]], [[[1, 2]], [[3, 4]]]))
        self.assertEqual(self.check(3, [[[1, 2]], [[2, 3]]], [[[2, 3]], [[1, 2]]]), [1, 0, 0])

    def test_the_first_filling_is_told_as_it_was_before_the_rows(self):
        self.assertEqual(self.check(3, [[[1, 2]], [[2, 3]]], [[[1, 2, 3]]]), [1, 1, 0])
        self.assertEqual(self.check(4, [[[1, 2], [3, 4]]], [[[1, 2, 3, 4]]]), [0, 1, 0, 0])

    def test_those_with_fewer_ones_come_first(self):
        # Of these fillings the rows do not make the same, either, and they are lesser lists than the answers.
        for places, row, other, first, second in (
            (3, [[[3, 2]]], [[[3, 1, 2]]], [1, 0, 0], [0, 1, 1]),
            (4, [[[4, 3]]], [[[4, 2, 3]]], [0, 1, 0, 0], [0, 0, 1, 1]),
        ):
            self.assertEqual(self.check(places, row, other), first)
            self.assertNotEqual(after_row(second, row), after_row(second, other))

    def test_all_rows_of_two_families_of_three_places_with_all_fillings(self):
        families = helpers.all_families(3)
        rows = [[one, two] for one in families for two in families]
        fillings = helpers.all_values(3, 3)
        after = [[helpers.reference_after_row(filling, row) for filling in fillings] for row in rows]
        alike = 0
        for at, other in itertools.combinations(range(len(rows)), 2):
            told = are_alike(3, rows[at], rows[other])
            self.assertIs(told, after[at] == after[other])
            alike += told
        self.assertGreater(alike, 100)

    def test_more_rows(self):
        source = random.Random(25)
        for places, times in ((3, 60), (4, 60), (5, 40), (6, 20), (7, 10), (8, 5)):
            for row, other in zip(some_rows(source, places, times), some_rows(source, places, times)):
                self.check(places, row, other)
                # After the same last family little is unlike.
                line = [list(range(1, places))]
                self.check(places, row + [line], other + [line])

    def test_twelve_places_and_eight_families(self):
        columns, lines = helpers.table(3, 4)
        self.assertIsNone(parting(12, [columns, lines] * 4, [columns, lines]))
        self.assertIs(are_alike(12, [columns, lines] * 4, [columns] * 4 + [lines] * 4), True)
        self.assertIs(are_alike(12, [columns, lines] * 4, [lines, columns] * 4), False)
        line = list(range(1, 13))
        self.assertEqual(parting(12, [[line]] * 8, [[line]] * 7 + [[line[::-1]]]), [0] * 11 + [1])
        even, odd = helpers.bricks(12)
        filling = parting(12, [even, odd] * 4, [odd, even] * 4)
        for marks in helpers.marks_in_order(12):
            alike = after_row(marks, [even, odd] * 4) == after_row(marks, [odd, even] * 4)
            self.assertIs(alike, marks != filling)
            if marks == filling:
                break


class Exchanging(unittest.TestCase):
    """Point [11]: when two families may change places in a row."""

    def assert_told(self, places, one, two):
        told = are_alike(places, [one, two], [two, one])
        hang = helpers.places_reached(places, [one, two, helpers.turned_about(one), helpers.turned_about(two)])
        reached = helpers.places_reached(places, [one, two])
        in_line = all(
            there == here or there in reached[here] or here in reached[there]
            for here in hang for there in hang[here]
        )
        both = keeps(places, one, two) and keeps(places, two, one)
        self.assertIs(told, both and in_line)
        return both, told

    def test_all_pairs_of_families_of_up_to_four_places(self):
        met = set()
        for places in (1, 2, 3, 4):
            families = helpers.all_families(places)
            met |= {self.assert_told(places, one, two) for one in families for two in families}
        self.assertEqual(met, {(False, False), (True, True), (True, False)})

    def test_more_places(self):
        source = random.Random(26)
        for places in (5, 6, 7, 8):
            for _ in range(30):
                self.assert_told(places, *(helpers.some_family(source, places, 15) for _ in range(2)))
        for rows, columns in ((1, 12), (2, 2), (2, 3), (3, 4), (6, 2)):
            both, told = self.assert_told(rows * columns, *helpers.table(rows, columns))
            self.assertIs(both, True)
            self.assertIs(told, rows == 1)
        for places in (5, 8, 11):
            for one, two in itertools.combinations(range(1, places), 2):
                both, _ = self.assert_told(places, helpers.gap_chains(places, one), helpers.gap_chains(places, two))
                self.assertIs(both, True)


class Needless(unittest.TestCase):
    def check(self, places, row):
        told = needless(places, row)
        marks = helpers.all_marks(places)
        after = [helpers.reference_after_row(filling, row) for filling in marks]
        self.assertEqual(told, [
            at for at in range(len(row))
            if [helpers.reference_after_row(filling, row[:at] + row[at + 1:]) for filling in marks] == after
        ])
        return told

    def test_nothing_there_or_nothing_done(self):
        self.assertEqual(needless(3, []), [])
        self.assertEqual(needless(1, [[[1]]] * 8), list(range(8)))
        self.assertEqual(needless(3, [[], [[1, 2]], [[]], [[3], [1]]]), [0, 2, 3])
        self.assertEqual(needless(2, [[[1, 2]]]), [])

    def test_the_same_family_twice(self):
        # Each of the two is needless at its place, though not both at once.
        self.assertEqual(needless(2, [[[1, 2]], [[1, 2]]]), [0, 1])
        self.assertEqual(needless(3, [[[1, 2]], [[2, 3]], [[1, 2]]]), [])
        family = [[1, 2]]
        self.assertEqual(needless(3, [family, [[2, 3]], family, family]), [2, 3])

    def test_what_a_later_family_undoes(self):
        self.assertEqual(needless(2, [[[1, 2]], [[2, 1]]]), [0])
        self.assertEqual(needless(3, [[[2, 3]], [[1, 2, 3]]]), [0])
        self.assertEqual(needless(3, [[[1, 2, 3]], [[2, 3]]]), [1])

    def test_all_rows_of_three_families_of_three_places(self):
        families = helpers.all_families(3)
        met = {tuple(self.check(3, list(row))) for row in itertools.product(families, repeat=3)}
        self.assertTrue({(), (0,), (1,), (2,), (0, 1), (1, 2), (0, 1, 2)} <= met)

    def test_more_rows(self):
        source = random.Random(27)
        for places, times in ((4, 40), (5, 25), (6, 12), (7, 4)):
            for row in some_rows(source, places, times, 6):
                self.check(places, row)
                self.check(places, [family for family in row for _ in range(2)])

    def test_needless_means_that_no_filling_is_another_one_without_it(self):
        source = random.Random(28)
        for row in some_rows(source, 4, 30):
            told = needless(4, row)
            for fillings in (helpers.all_orders(4), helpers.all_values(4, 3)):
                after = [after_row(filling, row) for filling in fillings]
                self.assertEqual(told, [
                    at for at in range(len(row))
                    if [after_row(filling, row[:at] + row[at + 1:]) for filling in fillings] == after
                ])

    def test_twelve_places_and_eight_families(self):
        columns, lines = helpers.table(4, 3)
        self.assertEqual(needless(12, [columns, lines] * 4), list(range(1, 8)))
        self.assertEqual(needless(12, [columns] * 8), list(range(8)))
        even, odd = helpers.bricks(12)
        self.assertEqual(needless(12, [even, odd] * 4), [])
        self.assertEqual(needless(12, [even, odd] * 3 + [odd, even]), [5, 6])


class InTime(unittest.TestCase):
    def assert_all_in_time(self, row, other, family):
        helpers.assert_in_time(self, sure_pairs, 12, row)
        helpers.assert_in_time(self, sorts, 12, row, family)
        helpers.assert_in_time(self, unsorted, 12, row, family)
        helpers.assert_in_time(self, are_alike, 12, row, other)
        helpers.assert_in_time(self, parting, 12, row, other)
        helpers.assert_in_time(self, needless, 12, row)

    def test_eight_families_of_twelve_places(self):
        source = random.Random(29)
        line = [list(range(1, 13))]
        for chains in (1, 2, 3, 6, 12):
            row = []
            for _ in range(8):
                places = list(range(1, 13))
                source.shuffle(places)
                row.append([places[start::chains] for start in range(chains)])
            self.assert_all_in_time(row, row[::-1], line)
            self.assert_all_in_time(row, list(row), row[0])

    def test_any_number_of_empty_chains(self):
        empty = [[] for _ in range(50000)]
        row = [empty + family for family in helpers.bricks(12) * 4]
        self.assert_all_in_time(row, row[::-1], empty + [[1, 2]])


class ArgumentsAndAnswers(unittest.TestCase):
    def test_no_argument_is_changed_and_every_list_is_new(self):
        row, other, family = [[[1, 2], []], [[2, 3]]], [[[3, 2]], []], [[1, 2, 3], []]
        check = helpers.assert_leaves_alone
        self.assertEqual(check(self, sure_pairs, 3, row), [(1, 3), (2, 3)])
        self.assertIs(check(self, sorts, 3, row, family), False)
        self.assertEqual(check(self, unsorted, 3, row, family), [1, 1, 0])
        self.assertIsNone(check(self, unsorted, 3, row, other[1]))
        self.assertIs(check(self, are_alike, 3, row, other), False)
        self.assertIs(check(self, are_alike, 3, row, row), True)
        self.assertEqual(check(self, parting, 3, row, other), [0, 0, 1])
        self.assertIsNone(check(self, parting, 3, row, row))
        self.assertEqual(check(self, needless, 3, row), [])
        self.assertEqual(check(self, needless, 3, row + row[1:] + [[]]), [1, 2, 3])

    def test_arguments_by_name(self):
        row, family = [[[1, 2]], [[2, 3]]], [[1, 2, 3]]
        self.assertEqual(sure_pairs(row=row, places=3), [(1, 3), (2, 3)])
        self.assertIs(sorts(family=family, row=row, places=3), False)
        self.assertEqual(unsorted(family=family, row=row, places=3), [1, 1, 0])
        self.assertIs(are_alike(other=row, row=[family], places=3), False)
        self.assertEqual(parting(3, other=row, row=[family]), [1, 1, 0])
        self.assertEqual(needless(row=row + row, places=3), [0, 3])


if __name__ == "__main__":
    unittest.main()
