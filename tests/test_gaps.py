"""Points [15] and [16]: keptsorted.gaps."""

import itertools
import random
import unittest

from keptsorted.families import after_row, is_sorted_by, sort_by
from keptsorted.gaps import count_sweeps, gap_family, gaps_of, slowest, sums, sweep, sweeps_needed
from keptsorted.keeps import keeps
from keptsorted.together import keep_one_another, orders, sure_together
from tests import helpers


def all_gap_lists(places):
    """All lists of unlike gaps, ascending, with the empty one."""
    numbers = range(1, places + 1)
    return [list(gaps) for many in range(places + 1) for gaps in itertools.combinations(numbers, many)]


def some_gaps(source, places, longest):
    return [source.randint(1, places) for _ in range(source.randint(0, longest))]


def some_filling(source, places):
    kinds = source.choice((2, 3, places, 10 ** 6))
    return [source.randint(-kinds, kinds) for _ in range(places)]


class Examples(unittest.TestCase):
    def test_examples_of_the_document(self):
        self.assertEqual(gap_family(7, 3), [[1, 4, 7], [2, 5], [3, 6]])
        self.assertEqual(sums(10, [3, 5]), [3, 5, 6, 8, 9])
        self.assertEqual(gaps_of([2, 1, 3, 2, 4]), [2, 3, 4])
        self.assertEqual(sweep([3, 2, 1], 1), [2, 1, 3])
        self.assertEqual(count_sweeps([3, 2, 1], 1), 2)
        self.assertEqual(sweeps_needed(8, [3, 5], 1), 4)
        self.assertEqual(count_sweeps(slowest(8, [3, 5], 1), 1), 4)


class GapFamily(unittest.TestCase):
    def test_one_place_and_the_ends_of_the_gaps(self):
        self.assertEqual(gap_family(1, 1), [[1]])
        self.assertEqual(gap_family(4, 1), [[1, 2, 3, 4]])
        self.assertEqual(gap_family(4, 3), [[1, 4], [2], [3]])
        self.assertEqual(gap_family(4, 4), [[1], [2], [3], [4]])
        self.assertEqual(gap_family(40, 1), [list(range(1, 41))])
        self.assertEqual(gap_family(40, 40), [[place] for place in range(1, 41)])

    def test_all_gaps_of_all_numbers_of_places(self):
        for places in range(1, 41):
            for gap in range(1, places + 1):
                told = gap_family(places, gap)
                self.assertEqual(told, helpers.gap_chains(places, gap))
                self.assertEqual(sorted(place for chain in told for place in chain), list(range(1, places + 1)))


class Sums(unittest.TestCase):
    def test_no_gaps_and_one_place(self):
        self.assertEqual(sums(1, []), [])
        self.assertEqual(sums(1, [1]), [])
        self.assertEqual(sums(40, []), [])

    def test_only_those_less_than_the_number_of_places(self):
        self.assertEqual(sums(6, [6]), [])
        self.assertEqual(sums(6, [5]), [5])
        self.assertEqual(sums(6, [3]), [3])
        self.assertEqual(sums(7, [3]), [3, 6])
        self.assertEqual(sums(40, [40]), [])
        self.assertEqual(sums(40, [1]), list(range(1, 40)))

    def test_each_gap_as_often_as_one_likes(self):
        self.assertEqual(sums(12, [2]), [2, 4, 6, 8, 10])
        self.assertEqual(sums(30, [6, 10, 15]), [6, 10, 12, 15, 16, 18, 20, 21, 22, 24, 25, 26, 27, 28])

    def test_the_same_gap_twice_and_any_order(self):
        self.assertEqual(sums(10, [5, 3]), [3, 5, 6, 8, 9])
        self.assertEqual(sums(10, [3, 5, 3, 5, 3]), [3, 5, 6, 8, 9])
        self.assertEqual(sums(10, [10, 9, 9]), [9])

    def test_all_lists_of_gaps_of_few_places(self):
        for places in range(1, 9):
            for gaps in all_gap_lists(places):
                self.assertEqual(sums(places, gaps), helpers.reference_sums(places, gaps))

    def test_long_lists_and_many_places(self):
        source = random.Random(51)
        for _ in range(200):
            places = source.randint(1, 40)
            gaps = some_gaps(source, places, 60)
            self.assertEqual(sums(places, gaps), helpers.reference_sums(places, gaps))
        for gaps in ([7, 11], [13, 12, 40], [20, 21] * 30, [5] * 60):
            self.assertEqual(sums(40, gaps), helpers.reference_sums(40, gaps))


class GapsOf(unittest.TestCase):
    def test_one_place_and_two(self):
        self.assertEqual(gaps_of([5]), [])
        self.assertEqual(gaps_of([1, 2]), [1])
        self.assertEqual(gaps_of([2, 1]), [])
        self.assertEqual(gaps_of([1, 1]), [1])

    def test_alike_values_are_in_order(self):
        self.assertEqual(gaps_of([3, 3, 3, 3]), [1, 2, 3])
        self.assertEqual(gaps_of([2, 1, 2]), [2])
        self.assertEqual(gaps_of([0, 1, 0, 1]), [2, 3])

    def test_all_places_count(self):
        self.assertEqual(gaps_of([1, 2, 3, 0]), [])
        self.assertEqual(gaps_of([9, 1, 2, 3]), [])
        self.assertEqual(gaps_of([2, 1, 3, 4]), [2, 3])
        self.assertEqual(gaps_of([1, 2, 4, 3]), [2, 3])

    def test_values_of_sixty_digits_and_below_nought(self):
        huge = helpers.HUGE
        self.assertEqual(gaps_of([-huge, 1 - huge, huge - 1, huge]), [1, 2, 3])
        self.assertEqual(gaps_of([1 - huge, -huge, huge, huge - 1]), [2, 3])

    def test_forty_places(self):
        self.assertEqual(gaps_of(list(range(40))), list(range(1, 40)))
        self.assertEqual(gaps_of(list(range(40, 0, -1))), [])
        self.assertEqual(gaps_of([1] + [0] * 38 + [1]), [39])

    def test_compared_with_a_reference(self):
        source = random.Random(52)
        for places in range(1, 8):
            for filling in helpers.all_marks(places):
                self.assertEqual(gaps_of(filling), helpers.reference_gaps_of(filling))
        for _ in range(200):
            filling = sorted(some_filling(source, source.randint(1, 40)))
            for _ in range(source.randint(0, 3)):
                one, two = source.randrange(len(filling)), source.randrange(len(filling))
                filling[one], filling[two] = filling[two], filling[one]
            self.assertEqual(gaps_of(filling), helpers.reference_gaps_of(filling))

    def test_the_differences_contain_their_sums(self):
        for places in range(1, 10):
            for filling in helpers.all_marks(places):
                told = gaps_of(filling)
                self.assertEqual(told, sums(places, told))


class GapsTogether(unittest.TestCase):
    """Point [15]: the families of gaps keep each other, and what is in order after all of them."""

    def test_the_families_of_any_two_gaps_keep_each_other(self):
        for places in (1, 2, 3, 7, 12, 40):
            families = [gap_family(places, gap) for gap in range(1, places + 1)]
            for one, two in itertools.product(families[:13], families):
                self.assertIs(keeps(places, one, two), True)
                self.assertIs(keeps(places, two, one), True)

    def test_a_filling_is_sorted_at_a_difference_if_it_is_sorted_by_its_family(self):
        source = random.Random(53)
        for _ in range(200):
            places = source.randint(1, 40)
            gaps = some_gaps(source, places, 2)
            filling = after_row(some_filling(source, places), [gap_family(places, gap) for gap in gaps])
            told = [gap for gap in range(1, places) if is_sorted_by(filling, gap_family(places, gap))]
            self.assertEqual(gaps_of(filling), told)

    def test_after_the_families_of_gaps_in_any_order_all_sums_are_sorted(self):
        source = random.Random(54)
        for _ in range(150):
            places = source.randint(1, 40)
            gaps = some_gaps(source, places, 4)
            for order in (gaps, gaps[::-1], sorted(gaps), sorted(gaps)[::-1]):
                filling = after_row(some_filling(source, places), [gap_family(places, gap) for gap in order])
                self.assertLessEqual(set(sums(places, gaps)), set(gaps_of(filling)))

    def test_there_are_fillings_sorted_at_no_other_difference(self):
        for places in range(1, 6):
            for gaps in all_gap_lists(places):
                families = [gap_family(places, gap) for gap in gaps]
                self.assertIs(keep_one_another(places, families), True)
                told = [gaps_of(filling) for filling in orders(places, families)]
                self.assertIn(sums(places, gaps), told)
                for differences in told:
                    self.assertLessEqual(set(sums(places, gaps)), set(differences))

    def test_the_pairs_that_are_sure_are_so_far_from_each_other(self):
        source = random.Random(55)
        for places in (1, 2, 6, 13, 40):
            for _ in range(5):
                gaps = some_gaps(source, places, 4)
                far = sums(places, gaps)
                expected = [
                    (one, two) for one, two in itertools.combinations(range(1, places + 1), 2) if two - one in far
                ]
                self.assertEqual(sure_together(places, [gap_family(places, gap) for gap in gaps]), expected)


class Sweep(unittest.TestCase):
    def test_from_the_first_place_on(self):
        self.assertEqual(sweep([2, 1], 1), [1, 2])
        self.assertEqual(sweep([1, 2], 1), [1, 2])
        self.assertEqual(sweep([4, 3, 2, 1], 1), [3, 2, 1, 4])
        self.assertEqual(sweep([2, 3, 4, 1], 1), [2, 3, 1, 4])
        self.assertEqual(sweep([4, 1, 2, 3], 1), [1, 2, 3, 4])

    def test_greater_gaps(self):
        self.assertEqual(sweep([6, 5, 4, 3, 2, 1], 2), [4, 3, 2, 1, 6, 5])
        self.assertEqual(sweep([6, 5, 4, 3, 2, 1], 3), [3, 2, 1, 6, 5, 4])
        self.assertEqual(sweep([6, 5, 4, 3, 2, 1], 5), [1, 5, 4, 3, 2, 6])

    def test_a_gap_as_great_as_the_number_of_places(self):
        for filling in ([7], [2, 1], [3, 2, 1], list(range(40, 0, -1))):
            self.assertEqual(sweep(filling, len(filling)), filling)

    def test_alike_values_and_values_of_sixty_digits(self):
        huge = helpers.HUGE
        self.assertEqual(sweep([1, 1, 0, 0], 1), [1, 0, 0, 1])
        self.assertEqual(sweep([huge, huge - 1, -huge, 1 - huge], 1), [huge - 1, -huge, 1 - huge, huge])

    def test_compared_with_a_reference(self):
        source = random.Random(56)
        for places in range(1, 7):
            for filling in helpers.all_marks(places) + helpers.all_orders(min(places, 5)):
                for gap in range(1, len(filling) + 1):
                    self.assertEqual(sweep(filling, gap), helpers.reference_sweep(filling, gap))
        for _ in range(200):
            filling = some_filling(source, source.randint(1, 40))
            gap = source.randint(1, len(filling))
            self.assertEqual(sweep(filling, gap), helpers.reference_sweep(filling, gap))

    def test_a_sweep_keeps_every_difference(self):
        for places in range(1, 9):
            for filling in helpers.all_marks(places):
                for gap in range(1, places + 1):
                    self.assertLessEqual(set(gaps_of(filling)), set(gaps_of(sweep(filling, gap))))

    def test_a_sweep_keeps_every_difference_at_many_places(self):
        source = random.Random(57)
        for _ in range(150):
            places = source.randint(1, 40)
            gaps = some_gaps(source, places, 3)
            filling = after_row(some_filling(source, places), [gap_family(places, gap) for gap in gaps])
            for gap in range(1, places + 1):
                self.assertLessEqual(set(gaps_of(filling)), set(gaps_of(sweep(filling, gap))))


class CountSweeps(unittest.TestCase):
    def assert_counted(self, filling, gap):
        """So many sweeps are enough, one less is not, and each of them makes it one less."""
        told = count_sweeps(filling, gap)
        self.assertIs(type(told), int)
        self.assertEqual(told, helpers.reference_count_sweeps(filling, gap))
        after = sweep(filling, gap)
        self.assertEqual(count_sweeps(after, gap), max(told - 1, 0))

    def test_one_place_and_sorted_fillings(self):
        self.assertEqual(count_sweeps([3], 1), 0)
        self.assertEqual(count_sweeps([1, 2, 3], 1), 0)
        self.assertEqual(count_sweeps([2, 2, 2], 1), 0)
        self.assertEqual(count_sweeps([2, 1, 2], 2), 0)
        self.assertEqual(count_sweeps([3, 2, 1], 3), 0)

    def test_the_greatest_number_over_all_places(self):
        self.assertEqual(count_sweeps([2, 1, 4, 3], 1), 1)
        self.assertEqual(count_sweeps([2, 3, 4, 1], 1), 3)
        self.assertEqual(count_sweeps([4, 1, 2, 3], 1), 1)
        self.assertEqual(count_sweeps([4, 3, 1, 2], 1), 2)
        self.assertEqual(count_sweeps(list(range(40, 0, -1)), 1), 39)

    def test_only_greater_ones_count(self):
        self.assertEqual(count_sweeps([1, 1, 1, 0, 0], 1), 3)
        self.assertEqual(count_sweeps([0, 1, 0, 1, 0], 1), 2)
        self.assertEqual(count_sweeps([2, 2, 1, 1], 1), 2)

    def test_only_values_in_the_same_chain_count(self):
        self.assertEqual(count_sweeps([9, 1, 9, 0], 2), 1)
        self.assertEqual(count_sweeps([6, 5, 4, 3, 2, 1], 2), 2)
        self.assertEqual(count_sweeps([6, 5, 4, 3, 2, 1], 4), 1)
        self.assertEqual(count_sweeps([1, 6, 2, 5, 3, 4], 2), 2)

    def test_all_fillings_of_few_places(self):
        for places in range(1, 9):
            for filling in helpers.all_marks(places):
                for gap in range(1, places + 1):
                    self.assert_counted(filling, gap)
        for filling in helpers.all_orders(5) + helpers.all_values(4, 3):
            for gap in range(1, len(filling) + 1):
                self.assert_counted(filling, gap)

    def test_many_places(self):
        source = random.Random(58)
        for _ in range(150):
            filling = some_filling(source, source.randint(1, 40))
            self.assert_counted(filling, source.randint(1, len(filling)))

    def test_after_so_many_sweeps_it_is_sorted_by_the_family(self):
        source = random.Random(59)
        for _ in range(100):
            filling = some_filling(source, source.randint(1, 40))
            gap = source.randint(1, len(filling))
            after = filling
            for _ in range(count_sweeps(filling, gap)):
                self.assertFalse(is_sorted_by(after, gap_family(len(filling), gap)))
                after = sweep(after, gap)
            self.assertEqual(after, sort_by(filling, gap_family(len(filling), gap)))


class SweepsNeeded(unittest.TestCase):
    def assert_slowest(self, places, gaps, gap):
        """The filling is sorted at the gaps of the list and needs just as many sweeps as are needed."""
        filling = slowest(places, gaps, gap)
        self.assertEqual(len(filling), places)
        for value in filling:
            self.assertIs(type(value), int)
            self.assertLessEqual(abs(value), helpers.HUGE)
        self.assertLessEqual(set(helpers.reference_sums(places, gaps)), set(helpers.reference_gaps_of(filling)))
        self.assertEqual(helpers.reference_count_sweeps(filling, gap), sweeps_needed(places, gaps, gap))

    def test_one_place(self):
        for gaps in ([], [1], [1, 1]):
            self.assertEqual(sweeps_needed(1, gaps, 1), 0)
            self.assert_slowest(1, gaps, 1)

    def test_no_gaps_before(self):
        self.assertEqual(sweeps_needed(40, [], 1), 39)
        self.assertEqual(sweeps_needed(40, [], 13), 3)
        self.assertEqual(sweeps_needed(40, [], 20), 1)
        self.assertEqual(sweeps_needed(40, [], 39), 1)
        self.assertEqual(sweeps_needed(40, [], 40), 0)
        self.assertEqual(sweeps_needed(6, [], 3), 1)
        self.assertEqual(sweeps_needed(7, [], 3), 2)

    def test_a_gap_that_is_a_sum(self):
        self.assertEqual(sweeps_needed(40, [1], 7), 0)
        self.assertEqual(sweeps_needed(40, [7], 7), 0)
        self.assertEqual(sweeps_needed(40, [3, 4], 10), 0)
        self.assertEqual(sweeps_needed(40, [3, 4], 5), 1)

    def test_only_multiples_of_the_gap_count(self):
        self.assertEqual(sweeps_needed(20, [3], 2), 6)
        self.assertEqual(sweeps_needed(20, [4], 6), 2)
        self.assertEqual(sweeps_needed(40, [3, 5], 1), 4)
        self.assertEqual(sweeps_needed(40, [6, 10, 15], 1), 15)

    def test_the_same_gap_twice_and_any_order(self):
        self.assertEqual(sweeps_needed(8, [5, 3, 5, 3, 8, 8], 1), 4)
        self.assertEqual(sweeps_needed(40, [20, 21] * 30, 1), 37)

    def test_all_fillings_by_noughts_and_ones_of_few_places(self):
        for places in range(1, 7):
            marks = helpers.all_marks(places)
            counted = [
                (set(helpers.reference_gaps_of(filling)),
                 [helpers.reference_count_sweeps(filling, gap) for gap in range(1, places + 1)])
                for filling in marks
            ]
            for gaps in all_gap_lists(places):
                wanted = {gap for gap in gaps if gap < places}
                found = [counts for differences, counts in counted if wanted <= differences]
                for gap in range(1, places + 1):
                    most = max(counts[gap - 1] for counts in found)
                    self.assertEqual(sweeps_needed(places, gaps, gap), most)
                    self.assert_slowest(places, gaps, gap)

    def test_no_filling_of_many_places_needs_more(self):
        source = random.Random(60)
        for _ in range(200):
            places = source.randint(1, 40)
            gaps = some_gaps(source, places, source.choice((2, 4, 60)))
            filling = after_row(some_filling(source, places), [gap_family(places, gap) for gap in gaps])
            gap = source.randint(1, places)
            self.assertLessEqual(count_sweeps(filling, gap), sweeps_needed(places, gaps, gap))

    def test_slowest_of_many_places(self):
        source = random.Random(61)
        for _ in range(200):
            places = source.randint(1, 40)
            self.assert_slowest(places, some_gaps(source, places, source.choice((2, 4, 60))), source.randint(1, places))
        for gaps in ([], [40], [39], [20], [20, 21], [7, 11], [6, 10, 15], [1]):
            for gap in range(1, 41):
                self.assert_slowest(40, gaps, gap)

    def test_as_many_as_there_are_multiples_that_are_no_sums(self):
        source = random.Random(62)
        for _ in range(200):
            places = source.randint(1, 40)
            gaps = some_gaps(source, places, 5)
            gap = source.randint(1, places)
            expected = set(range(gap, places, gap)) - set(helpers.reference_sums(places, gaps))
            self.assertEqual(sweeps_needed(places, gaps, gap), len(expected))


class InTime(unittest.TestCase):
    def test_sixty_gaps_at_forty_places(self):
        filling = list(range(40, 0, -1))
        for gaps in ([1] * 60, [2] * 60, list(range(40, 0, -1)) + [1] * 20, [40] * 60, list(range(20, 40)) * 3):
            helpers.assert_in_time(self, sums, 40, gaps)
            for gap in (1, 2, 40):
                helpers.assert_in_time(self, sweeps_needed, 40, gaps, gap)
                helpers.assert_in_time(self, slowest, 40, gaps, gap)
        helpers.assert_in_time(self, gaps_of, [1] * 40)
        for gap in (1, 2, 40):
            helpers.assert_in_time(self, gap_family, 40, gap)
            helpers.assert_in_time(self, sweep, filling, gap)
            helpers.assert_in_time(self, count_sweeps, filling, gap)


class ArgumentsAndAnswers(unittest.TestCase):
    def test_no_argument_is_changed_and_every_list_is_new(self):
        self.assertEqual(helpers.assert_leaves_alone(self, gap_family, 4, 2), [[1, 3], [2, 4]])
        self.assertEqual(helpers.assert_leaves_alone(self, sums, 7, [3, 2, 3]), [2, 3, 4, 5, 6])
        self.assertEqual(helpers.assert_leaves_alone(self, sums, 7, []), [])
        self.assertEqual(helpers.assert_leaves_alone(self, gaps_of, [1, 2, 1]), [2])
        self.assertEqual(helpers.assert_leaves_alone(self, gaps_of, [1, 2, 3]), [1, 2])
        self.assertEqual(helpers.assert_leaves_alone(self, sweep, [3, 2, 1], 1), [2, 1, 3])
        self.assertEqual(helpers.assert_leaves_alone(self, sweep, [3, 2, 1], 3), [3, 2, 1])
        self.assertEqual(helpers.assert_leaves_alone(self, count_sweeps, [3, 2, 1], 1), 2)
        self.assertEqual(helpers.assert_leaves_alone(self, sweeps_needed, 8, [5, 3], 1), 4)
        self.assertEqual(len(helpers.assert_leaves_alone(self, slowest, 8, [5, 3], 1)), 8)

    def test_changes_to_an_answer_have_no_effect(self):
        filling, gaps = [3, 2, 1], [2, 3]
        family = gap_family(3, 1)
        family[0].append(9)
        family.append([9])
        self.assertEqual(gap_family(3, 1), [[1, 2, 3]])
        for answer in (sums(5, gaps), gaps_of(filling), sweep(filling, 3), slowest(5, gaps, 1)):
            answer.append(5)
            answer[0] = 9
        self.assertEqual((filling, gaps), ([3, 2, 1], [2, 3]))
        self.assertEqual((sums(5, gaps), gaps_of(filling), sweep(filling, 3)), ([2, 3, 4], [], [3, 2, 1]))
        self.assertEqual(count_sweeps(slowest(5, gaps, 1), 1), 1)

    def test_arguments_by_name(self):
        self.assertEqual(gap_family(gap=2, places=3), [[1, 3], [2]])
        self.assertEqual(sums(gaps=[2], places=3), [2])
        self.assertEqual(gaps_of(filling=[2, 1, 2]), [2])
        self.assertEqual(sweep(gap=1, filling=[3, 2, 1]), [2, 1, 3])
        self.assertEqual(count_sweeps(gap=1, filling=[3, 2, 1]), 2)
        self.assertEqual(sweeps_needed(gap=1, gaps=[3, 5], places=8), 4)
        self.assertEqual(count_sweeps(slowest(gap=1, gaps=[3, 5], places=8), 1), 4)
        self.assertEqual(sums(3, gaps=[2]), [2])


if __name__ == "__main__":
    unittest.main()
