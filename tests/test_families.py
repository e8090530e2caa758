"""Points [5] to [7]: sort_by, is_sorted_by, after_row."""

import itertools
import random
import unittest

from keptsorted.families import after_row, is_sorted_by, sort_by
from tests import helpers


class Examples(unittest.TestCase):
    def test_examples_of_the_document(self):
        self.assertEqual(sort_by([3, 1, 2], [[1, 3]]), [2, 1, 3])
        self.assertIs(is_sorted_by([2, 1, 3], [[1, 3], [2]]), True)
        self.assertIs(is_sorted_by([2, 1, 3], [[3, 1]]), False)
        self.assertEqual(after_row([4, 3, 2, 1], [[[1, 2], [3, 4]], [[1, 3], [2, 4]]]), [1, 2, 3, 4])


class SortBy(unittest.TestCase):
    def test_values_ascend_along_the_chain_and_not_along_the_numbers(self):
        self.assertEqual(sort_by([1, 2, 3, 4], [[4, 2, 3, 1]]), [4, 2, 3, 1])
        self.assertEqual(sort_by([5, 6, 7], [[3, 1, 2]]), [6, 7, 5])

    def test_each_chain_is_sorted_for_itself(self):
        self.assertEqual(sort_by([9, 8, 7, 6, 5, 4], [[1, 3, 5], [6, 4, 2]]), [5, 8, 7, 6, 9, 4])

    def test_places_in_no_chain_keep_their_values(self):
        self.assertEqual(sort_by([5, 4, 3, 2, 1], [[2, 4]]), [5, 2, 3, 4, 1])
        self.assertEqual(sort_by([5, 4, 3], [[1], [3]]), [5, 4, 3])

    def test_empty_families_and_empty_chains_change_nothing(self):
        self.assertEqual(sort_by([2, 1], []), [2, 1])
        self.assertEqual(sort_by([2, 1], [[], []]), [2, 1])
        self.assertEqual(sort_by([2, 1], [[], [1, 2], []]), [1, 2])

    def test_equal_values(self):
        self.assertEqual(sort_by([2, 1, 2, 1], [[1, 2, 3, 4]]), [1, 1, 2, 2])
        self.assertEqual(sort_by([3, 3, 3], [[3, 2, 1]]), [3, 3, 3])

    def test_values_of_sixty_digits_and_below_nought(self):
        huge = helpers.HUGE
        self.assertEqual(sort_by([huge, -huge, huge - 1, 0, -1], [[1, 2, 3, 4, 5]]), [-huge, -1, 0, huge - 1, huge])
        self.assertEqual(sort_by([-huge, 1 - huge], [[2, 1]]), [1 - huge, -huge])

    def test_one_place(self):
        for family in ([], [[]], [[1]], [[], [1], []]):
            self.assertEqual(sort_by([7], family), [7])

    def test_forty_places(self):
        filling = [(17 * place) % 40 for place in range(40)]
        self.assertEqual(sort_by(filling, [list(range(1, 41))]), list(range(40)))
        self.assertEqual(sort_by(filling, [list(range(40, 0, -1))]), list(range(39, -1, -1)))

    def test_small_families_compared_with_a_reference(self):
        for places in range(1, 5):
            fillings = [list(values) for values in itertools.product(range(3), repeat=places)]
            for family in helpers.all_families(places):
                for filling in fillings:
                    self.assertEqual(sort_by(filling, family), helpers.reference_sorted(filling, family))

    def test_large_families_compared_with_a_reference(self):
        source = random.Random(5)
        for _ in range(200):
            places = source.randint(5, 40)
            family = helpers.some_family(source, places, 20)
            filling = [source.randint(-9, 9) for _ in range(places)]
            self.assertEqual(sort_by(filling, family), helpers.reference_sorted(filling, family))

    def test_many_empty_chains(self):
        self.assertEqual(sort_by([2, 1], [[] for _ in range(100000)] + [[1, 2]]), [1, 2])


class IsSortedBy(unittest.TestCase):
    def test_along_the_chain(self):
        self.assertIs(is_sorted_by([1, 2, 3], [[1, 2, 3]]), True)
        self.assertIs(is_sorted_by([1, 3, 2], [[1, 2, 3]]), False)
        self.assertIs(is_sorted_by([1, 3, 2], [[1, 3, 2]]), True)
        self.assertIs(is_sorted_by([2, 1, 3], [[1, 2, 3]]), False)

    def test_every_chain_counts(self):
        self.assertIs(is_sorted_by([1, 2, 4, 3], [[1, 2], [3, 4]]), False)
        self.assertIs(is_sorted_by([2, 1, 3, 4], [[1, 2], [3, 4]]), False)
        self.assertIs(is_sorted_by([1, 2, 0, 3], [[1, 2], [3, 4]]), True)

    def test_equal_values_are_in_order(self):
        self.assertIs(is_sorted_by([2, 2, 2], [[3, 1, 2]]), True)
        self.assertIs(is_sorted_by([1, 2, 2, 1], [[1, 4, 3, 2]]), True)

    def test_nothing_to_be_in_order(self):
        for family in ([], [[]], [[1], [2], [3]], [[3]]):
            self.assertIs(is_sorted_by([3, 2, 1], family), True)
        self.assertIs(is_sorted_by([-1], [[1]]), True)

    def test_values_of_sixty_digits_and_below_nought(self):
        huge = helpers.HUGE
        self.assertIs(is_sorted_by([-huge, 1 - huge, huge - 1, huge], [[1, 2, 3, 4]]), True)
        self.assertIs(is_sorted_by([huge, huge - 1], [[1, 2]]), False)
        self.assertIs(is_sorted_by([1 - huge, -huge], [[1, 2]]), False)

    def test_forty_places(self):
        self.assertIs(is_sorted_by(list(range(40)), [list(range(1, 41))]), True)
        self.assertIs(is_sorted_by(list(range(39)) + [37], [list(range(1, 41))]), False)

    def test_small_families_compared_with_a_reference(self):
        for places in range(1, 5):
            fillings = [list(values) for values in itertools.product(range(3), repeat=places)]
            for family in helpers.all_families(places):
                for filling in fillings:
                    self.assertIs(is_sorted_by(filling, family), helpers.reference_is_sorted(filling, family))

    def test_sorted_exactly_if_sorting_changes_nothing(self):
        source = random.Random(6)
        for _ in range(300):
            places = source.randint(1, 40)
            family = helpers.some_family(source, places, 60)
            filling = [source.randint(0, 3) for _ in range(places)]
            after = sort_by(filling, family)
            self.assertIs(is_sorted_by(filling, family), after == filling)
            self.assertIs(is_sorted_by(after, family), True)


class AfterRow(unittest.TestCase):
    def test_the_empty_row_changes_nothing(self):
        self.assertEqual(after_row([2, 1], []), [2, 1])
        self.assertEqual(after_row([2, 1], [[], [[]]]), [2, 1])

    def test_the_order_of_the_families_counts(self):
        self.assertEqual(after_row([3, 2, 1], [[[1, 2]], [[2, 3]]]), [2, 1, 3])
        self.assertEqual(after_row([3, 2, 1], [[[2, 3]], [[1, 2]]]), [1, 3, 2])

    def test_one_family_after_the_other(self):
        source = random.Random(7)
        for _ in range(100):
            places = source.randint(1, 40)
            row = [helpers.some_family(source, places, 10) for _ in range(source.randint(0, 8))]
            filling = [source.randint(-5, 5) for _ in range(places)]
            expected = filling
            for family in row:
                expected = helpers.reference_sorted(expected, family)
            self.assertEqual(after_row(filling, row), expected)

    def test_sixty_families_that_sort_neighbours_in_turns(self):
        even = [[place, place + 1] for place in range(1, 40, 2)]
        odd = [[place, place + 1] for place in range(2, 40, 2)]
        filling = list(range(40, 0, -1))
        self.assertEqual(after_row(filling, [even, odd] * 20), list(range(1, 41)))
        self.assertEqual(after_row(filling, [even, odd] * 30), list(range(1, 41)))
        self.assertNotEqual(after_row(filling, [even, odd] * 10), list(range(1, 41)))

    def test_the_same_family_object_may_occur_again(self):
        family = [[2, 1]]
        self.assertEqual(after_row([1, 2], [family, [[1, 2]], family]), [2, 1])


class NoughtsAndOnes(unittest.TestCase):
    def test_sorting_does_the_same_to_lesser_and_greater_values(self):
        source = random.Random(8)
        for _ in range(200):
            places = source.randint(1, 40)
            row = [helpers.some_family(source, places, 10) for _ in range(3)]
            filling = [source.randint(-9, 9) for _ in range(places)]
            limit = source.randint(-9, 9)
            marks = [int(value > limit) for value in filling]
            self.assertEqual([int(value > limit) for value in after_row(filling, row)], after_row(marks, row))

    def test_rows_alike_on_noughts_and_ones_are_alike_on_all(self):
        families = helpers.all_families(3)
        rows = [[one, two] for one in families for two in families]
        fillings = [list(values) for values in itertools.product(range(3), repeat=3)]
        by_marks = {}
        for row in rows:
            marks = str([after_row(filling, row) for filling in helpers.all_marks(3)])
            whole = str([after_row(filling, row) for filling in fillings])
            self.assertEqual(by_marks.setdefault(marks, whole), whole)
        self.assertGreater(len(by_marks), len(families))


class ArgumentsAndAnswers(unittest.TestCase):
    def test_no_argument_is_changed_and_every_list_is_new(self):
        filling, family = [4, 3, 2, 1], [[4, 1], [], [2, 3]]
        self.assertEqual(helpers.assert_leaves_alone(self, sort_by, filling, family), [4, 2, 3, 1])
        self.assertEqual(helpers.assert_leaves_alone(self, sort_by, filling, []), filling)
        self.assertIs(helpers.assert_leaves_alone(self, is_sorted_by, filling, family), False)
        self.assertEqual(helpers.assert_leaves_alone(self, after_row, filling, [family, [[1, 2, 3, 4]]]), [1, 2, 3, 4])
        self.assertEqual(helpers.assert_leaves_alone(self, after_row, filling, []), filling)

    def test_changes_to_an_answer_have_no_effect(self):
        filling = [2, 1]
        for answer in (sort_by(filling, []), after_row(filling, []), after_row(filling, [[]])):
            answer.append(5)
            answer[0] = 9
        self.assertEqual(filling, [2, 1])

    def test_arguments_by_name(self):
        self.assertEqual(sort_by(family=[[1, 2]], filling=[2, 1]), [1, 2])
        self.assertIs(is_sorted_by(family=[[1, 2]], filling=[2, 1]), False)
        self.assertEqual(after_row(row=[[[1, 2]]], filling=[2, 1]), [1, 2])
        self.assertEqual(sort_by([2, 1], family=[[1, 2]]), [1, 2])


if __name__ == "__main__":
    unittest.main()
