"""Points [9] and [12]: keptsorted.together."""

import copy
import itertools
import math
import random
import types
import unittest

from keptsorted.errors import InvalidNumber, InvalidRow, NotKept
from keptsorted.families import after_row
from keptsorted.keeps import keeps
from keptsorted.rows import sure_pairs
from keptsorted.together import count_marks, count_orders, keep_one_another, orders, sure_together
from tests import helpers


def first_order(places, families):
    """The first filling of the generator, so that its errors are met like those of a function."""
    return next(orders(places, families))


def sorted_ones(fillings, families):
    return [filling for filling in fillings if all(helpers.reference_is_sorted(filling, one) for one in families)]


def kept_pairs(places):
    """All pairs of families in which each keeps the other one, found by going through the fillings by 0 and 1."""
    marks = helpers.all_marks(places)
    families = helpers.all_families(places)
    kept = {}
    for first, second in itertools.product(range(len(families)), repeat=2):
        kept[first, second] = helpers.reference_keeps(families[first], families[second], marks)
    return [[families[one], families[two]] for one, two in kept if kept[one, two] and kept[two, one]]


def some_kept(source, places, many):
    """Families that keep one another: gaps or sides of a box, with other numbers for the places, some turned about."""
    kinds = [[helpers.gap_chains(places, gap) for gap in source.sample(range(1, places + 1), min(many, places))]]
    kinds.extend(list(helpers.table(rows, places // rows)) for rows in range(2, places) if places % rows == 0)
    families = source.choice(kinds)
    if source.randrange(2):
        families = [helpers.turned_about(family) for family in families]
    numbers = source.sample(range(1, places + 1), places)
    return [[[numbers[place - 1] for place in chain] for chain in family] for family in families]


class Examples(unittest.TestCase):
    def test_examples_of_the_document(self):
        families = [[[1, 2], [3, 4]], [[1, 3], [2, 4]]]
        self.assertIs(keep_one_another(4, families), True)
        self.assertEqual(sure_together(4, families), [(1, 2), (1, 3), (1, 4), (2, 4), (3, 4)])
        self.assertEqual(count_orders(4, families), 2)
        self.assertEqual(count_marks(4, families), 6)
        self.assertEqual(list(orders(4, families)), [[1, 2, 3, 4], [1, 3, 2, 4]])


class KeepOneAnother(unittest.TestCase):
    def test_no_family_one_family_and_empty_families(self):
        for places in (1, 3, 40):
            for families in ([], [[]], [[], []], [[[]], [[1]], []], [[[places, 1]] if places > 1 else [[1]]]):
                self.assertIs(keep_one_another(places, families), True)

    def test_a_family_need_not_be_compared_with_itself_but_may_come_twice(self):
        family = [[2, 1], [3]]
        self.assertIs(keep_one_another(3, [family, family]), True)
        self.assertIs(keep_one_another(3, [family] * 6), True)
        self.assertIs(keep_one_another(3, [family, [[3], [], [2, 1]]]), True)
        self.assertIs(keep_one_another(3, [family, [[1, 2]]]), False)

    def test_keeping_in_one_direction_alone_is_not_enough(self):
        one, two = [[1, 2, 3, 4], [5, 6]], [[1, 2, 5], [3, 4, 6]]
        self.assertIs(keeps(6, one, two), True)
        self.assertIs(keep_one_another(6, [one, two]), False)
        self.assertIs(keep_one_another(6, [two, one]), False)

    def test_all_triples_of_three_places(self):
        marks = helpers.all_marks(3)
        families = helpers.all_families(3)
        kept = [[helpers.reference_keeps(one, two, marks) for two in families] for one in families]
        for triple in itertools.product(range(len(families)), repeat=3):
            expected = all(kept[one][two] for one, two in itertools.permutations(triple, 2))
            self.assertIs(keep_one_another(3, [families[at] for at in triple]), expected)

    def test_one_amiss_among_six(self):
        gaps = [helpers.gap_chains(12, gap) for gap in (1, 2, 3, 5, 7, 11)]
        self.assertIs(keep_one_another(12, gaps), True)
        for at in range(5):
            wrong = gaps[:at] + [helpers.turned_about(gaps[at])] + gaps[at + 1:]
            self.assertIs(keep_one_another(12, wrong), False)


class NotKeptFamilies(unittest.TestCase):
    CALLS = (sure_together, count_orders, count_marks, first_order)

    def assert_not_kept(self, one, two, places, families):
        for function in self.CALLS:
            error = helpers.caught(self, NotKept, function, places, families)
            self.assertEqual((error.one, error.two), (one, two))
            self.assertEqual((type(error.one), type(error.two)), (int, int))
        self.assertIs(keep_one_another(places, families), False)

    def test_the_first_family_that_does_not_keep_another_one(self):
        one, two = [[1, 2, 3, 4], [5, 6]], [[1, 2, 5], [3, 4, 6]]
        self.assert_not_kept(1, 0, 6, [one, two])
        self.assert_not_kept(0, 1, 6, [two, one])
        self.assert_not_kept(2, 1, 6, [[], one, two])
        self.assert_not_kept(0, 2, 6, [two, [[]], one])
        self.assert_not_kept(3, 0, 6, [one, one, one, two])
        self.assert_not_kept(0, 4, 6, [two, two, two, two, one, one])

    def test_the_least_index_of_a_family_that_it_does_not_keep(self):
        up, down = [[1, 2]], [[2, 1]]
        self.assert_not_kept(0, 1, 2, [up, down])
        self.assert_not_kept(0, 2, 2, [up, up, down])
        self.assert_not_kept(0, 2, 2, [up, up, down, up, down])
        self.assert_not_kept(1, 4, 2, [[], up, [[1]], [[2], [1]], down, down])
        self.assert_not_kept(4, 5, 40, [[], [], [], [], [[39, 40]], [[40, 39]]])

    def test_all_triples_of_three_places(self):
        marks = helpers.all_marks(3)
        families = helpers.all_families(3)
        kept = [[helpers.reference_keeps(one, two, marks) for two in families] for one in families]
        for triple in itertools.product(range(len(families)), repeat=3):
            wrong = [
                (one, two) for one, two in itertools.permutations(range(3), 2) if not kept[triple[one]][triple[two]]
            ]
            if wrong:
                one, two = min(wrong)
                error = helpers.caught(self, NotKept, sure_together, 3, [families[at] for at in triple])
                self.assertEqual((error.one, error.two), (one, two))

    def test_the_other_checks_come_first(self):
        wrong = [[[1, 2]], [[2, 1]]]
        for function in self.CALLS:
            self.assertIs(helpers.caught(self, InvalidNumber, function, 0, wrong).number, 0)
            error = helpers.caught(self, InvalidRow, function, 2, wrong + [[[3]]])
            self.assertEqual((error.family, error.chain, error.index), (2, 0, 0))
            error = helpers.caught(self, InvalidRow, function, 2, wrong + [None])
            self.assertEqual((error.family, error.chain, error.index), (2, None, None))
            error = helpers.caught(self, InvalidRow, function, 1, wrong)
            self.assertEqual((error.family, error.chain, error.index), (0, 0, 1))

    def test_families_that_keep_one_another_raise_nothing(self):
        for function in self.CALLS:
            function(3, [[[1, 2]], [[1, 3]]])
            function(1, [])


class SureTogether(unittest.TestCase):
    def test_one_place_and_nothing_to_be_sure(self):
        for families in ([], [[]], [[[1]]], [[[]], [[1], []]]):
            self.assertEqual(sure_together(1, families), [])
            self.assertEqual(sure_together(40, families), [])

    def test_steps_over_several_families(self):
        self.assertEqual(sure_together(3, [[[1, 2]], [[1, 3]]]), [(1, 2), (1, 3)])
        self.assertEqual(sure_together(4, [[[4, 3], [2, 1]], [[4, 2], [3, 1]]]),
                         [(2, 1), (3, 1), (4, 1), (4, 2), (4, 3)])

    def test_answers_are_tuples_of_whole_numbers(self):
        told = sure_together(3, [[[1, 2, 3]]])
        self.assertEqual(told, [(1, 2), (1, 3), (2, 3)])
        self.assertTrue(all(type(pair) is tuple and list(map(type, pair)) == [int, int] for pair in told))

    def test_all_kept_pairs_of_families_after_sorting_in_any_order(self):
        for places in (1, 2, 3, 4):
            marks = helpers.all_marks(places)
            for one, two in kept_pairs(places):
                told = sure_together(places, [one, two])
                self.assertEqual(told, sorted(told))
                for row in ([one, two], [two, one]):
                    self.assertEqual(told, sure_pairs(places, row))
                    after = [helpers.reference_after_row(filling, row) for filling in marks]
                    self.assertEqual(told, [
                        pair for pair in itertools.permutations(range(1, places + 1), 2)
                        if all(filling[pair[0] - 1] <= filling[pair[1] - 1] for filling in after)
                    ])

    def test_families_that_keep_one_another_after_sorting_in_any_order(self):
        source = random.Random(31)
        for places in (5, 6, 8, 9, 12):
            for _ in range(6):
                families = some_kept(source, places, source.randint(1, 6))
                told = sure_together(places, families)
                source.shuffle(families)
                self.assertEqual(told, sure_pairs(places, families))
                self.assertEqual(told, sure_together(places, families))

    def test_forty_places(self):
        upward = list(itertools.combinations(range(1, 41), 2))
        self.assertEqual(sure_together(40, [[list(range(1, 41))]]), upward)
        self.assertEqual(sure_together(40, [[list(range(40, 0, -1))]]), sorted((two, one) for one, two in upward))
        self.assertEqual(sure_together(40, list(helpers.table(5, 8))), [
            (one, two) for one, two in upward
            if (one - 1) // 8 <= (two - 1) // 8 and (one - 1) % 8 <= (two - 1) % 8
        ])
        self.assertEqual(sure_together(40, [helpers.gap_chains(40, gap) for gap in (5, 7)]), [
            (one, two) for one, two in upward
            if any((two - one - 5 * fives) % 7 == 0 for fives in range((two - one) // 5 + 1))
        ])


class Counts(unittest.TestCase):
    def test_one_place(self):
        for families in ([], [[]], [[[1]]], [[[1]]] * 6):
            self.assertEqual(count_orders(1, families), 1)
            self.assertEqual(count_marks(1, families), 2)

    def test_no_chains(self):
        for places in range(1, 15):
            for families in ([], [[[]], []], [[[1]], [[places], []]]):
                self.assertEqual(count_orders(places, families), math.factorial(places))
                self.assertEqual(count_marks(places, families), 2 ** places)

    def test_one_chain(self):
        for places in range(1, 15):
            for chain in (list(range(1, places + 1)), list(range(places, 0, -1))):
                self.assertEqual(count_orders(places, [[chain]]), 1)
                self.assertEqual(count_marks(places, [[chain]]), places + 1)

    def test_several_chains_of_one_family(self):
        self.assertEqual(count_orders(14, [[[1, 2, 3, 4, 5, 6, 7], [8, 9, 10, 11, 12, 13, 14]]]), math.comb(14, 7))
        self.assertEqual(count_marks(14, [[[1, 2, 3, 4, 5, 6, 7], [8, 9, 10, 11, 12, 13, 14]]]), 64)
        self.assertEqual(count_orders(14, [[[9, 4], [14, 1]]]), math.factorial(14) // 4)
        self.assertEqual(count_marks(14, [[[9, 4], [14, 1]]]), 9 * 2 ** 10)

    def test_tables_and_boxes(self):
        self.assertEqual(count_orders(14, list(helpers.table(2, 7))), 429)
        self.assertEqual(count_marks(14, list(helpers.table(7, 2))), 36)
        self.assertEqual(count_orders(12, list(helpers.table(3, 4))), 462)
        box = [[[1, 5], [2, 6], [3, 7], [4, 8]], [[1, 3], [2, 4], [5, 7], [6, 8]], [[1, 2], [3, 4], [5, 6], [7, 8]]]
        self.assertEqual(count_orders(8, box), 48)
        self.assertEqual(count_marks(8, box), 20)

    def test_all_kept_pairs_of_families_with_all_fillings(self):
        for places in (1, 2, 3, 4):
            marks = helpers.all_marks(places)
            unlike = helpers.all_orders(places)
            for families in kept_pairs(places):
                self.assertEqual(count_marks(places, families), len(sorted_ones(marks, families)))
                self.assertEqual(count_orders(places, families), len(sorted_ones(unlike, families)))

    def test_more_families_with_all_fillings(self):
        source = random.Random(32)
        for places in (5, 6, 7):
            marks = helpers.all_marks(places)
            unlike = helpers.all_orders(places)
            for _ in range(8):
                families = some_kept(source, places, source.randint(1, 6))
                self.assertEqual(count_marks(places, families), len(sorted_ones(marks, families)))
                self.assertEqual(count_orders(places, families), len(sorted_ones(unlike, families)))


class Orders(unittest.TestCase):
    def assert_ascending(self, places, families, fillings):
        """Check that fillings are ascending, and that each of them is one of those that are to be told."""
        for one, two in zip(fillings, fillings[1:]):
            self.assertLess(one, two)
        for filling in fillings:
            self.assertIs(type(filling), list)
            self.assertEqual(sorted(filling), list(range(1, places + 1)))
            self.assertTrue(all(type(value) is int for value in filling))
            self.assertTrue(all(helpers.reference_is_sorted(filling, family) for family in families))

    def assert_all_told(self, places, families):
        """Check that all fillings are told, by their number."""
        fillings = list(orders(places, families))
        self.assert_ascending(places, families, fillings)
        self.assertEqual(len(fillings), count_orders(places, families))
        return fillings

    def test_it_is_a_generator(self):
        self.assertIs(type(orders(1, [])), types.GeneratorType)

    def test_one_place(self):
        for families in ([], [[]], [[[1]]], [[[1], []]] * 6):
            self.assertEqual(list(orders(1, families)), [[1]])

    def test_no_chains(self):
        for places in (2, 3, 5):
            self.assertEqual(list(orders(places, [])), helpers.all_orders(places))
            self.assertEqual(list(orders(places, [[[places], []], []])), helpers.all_orders(places))

    def test_one_chain(self):
        self.assertEqual(list(orders(3, [[[2, 3, 1]]])), [[3, 1, 2]])
        self.assertEqual(list(orders(4, [[[2, 4]]])), sorted_ones(helpers.all_orders(4), [[[2, 4]]]))

    def test_all_kept_pairs_of_families_with_all_fillings(self):
        for places in (1, 2, 3, 4):
            unlike = helpers.all_orders(places)
            for families in kept_pairs(places):
                self.assertEqual(list(orders(places, families)), sorted_ones(unlike, families))

    def test_more_families_with_all_fillings(self):
        source = random.Random(33)
        for places in (5, 6, 7):
            unlike = helpers.all_orders(places)
            for _ in range(10):
                families = some_kept(source, places, source.randint(1, 6))
                self.assertEqual(list(orders(places, families)), sorted_ones(unlike, families))

    def test_up_to_fourteen_places_by_their_number(self):
        source = random.Random(34)
        for rows, columns in ((2, 7), (7, 2), (3, 4), (4, 3), (6, 2)):
            families = list(helpers.table(rows, columns))
            self.assert_all_told(rows * columns, families)
            self.assert_all_told(rows * columns, [helpers.turned_about(family) for family in families])
        met = 0
        while met < 25:
            places = source.randint(8, 14)
            families = some_kept(source, places, source.randint(2, 6))
            if count_orders(places, families) <= 500:
                self.assert_all_told(places, families)
                met += 1

    def test_what_is_told_is_what_sorting_makes_of_unlike_values(self):
        source = random.Random(35)
        families = list(helpers.table(3, 3))
        told = list(orders(9, families))
        for _ in range(300):
            filling = source.sample(range(1, 10), 9)
            self.assertIn(after_row(filling, families), told)
            self.assertIn(after_row(filling, families[::-1]), told)

    def test_forty_places_with_few_fillings(self):
        line = list(range(1, 41))
        self.assertEqual(list(orders(40, [[line]])), [line])
        self.assertEqual(list(orders(40, [[line[::-1]]])), [line[::-1]])
        free = [line[:number - 1] + line[number:] + [number] for number in range(40, 0, -1)]
        self.assertEqual(list(orders(40, [[line[:-1]]])), free)
        self.assertEqual(list(orders(40, [[line[1:]]])), sorted(order[-1:] + order[:-1] for order in free))
        self.assertEqual(list(orders(40, [helpers.gap_chains(40, gap) for gap in (1, 3, 5, 7, 9, 40)])), [line])

    def test_forty_places_without_dead_ends(self):
        sets = [[], [helpers.bricks(40)[0]], list(helpers.table(2, 20)), list(helpers.table(20, 2)),
                list(helpers.table(5, 8)), [helpers.gap_chains(40, gap) for gap in (13, 14, 15, 16, 17, 18)],
                [helpers.gap_chains(40, gap) for gap in (2, 39)], [[list(range(40, 20, -1)), list(range(20, 0, -1))]],
                [[[place + 20, place] for place in range(1, 21)]], [[list(range(2, 41, 2)), list(range(39, 0, -2))]]]
        for families in sets + [[helpers.turned_about(family) for family in families] for families in sets]:
            generator = orders(40, families)
            fillings = [helpers.assert_in_time(self, next, generator) for _ in range(40)]
            self.assert_ascending(40, families, fillings)

    def test_the_first_filling_of_forty_places(self):
        # Place 1 can't have a number before all places below it have one.
        self.assertEqual(first_order(40, [[list(range(40, 20, -1)), list(range(20, 0, -1))]]),
                         list(range(20, 0, -1)) + list(range(40, 20, -1)))
        self.assertEqual(first_order(40, [[[place + 20, place] for place in range(1, 21)]]),
                         list(range(2, 41, 2)) + list(range(1, 41, 2)))
        self.assertEqual(first_order(40, list(helpers.table(2, 20))), list(range(1, 41)))
        self.assertEqual(first_order(40, [helpers.turned_about(family) for family in helpers.table(2, 20)]),
                         list(range(40, 0, -2)) + list(range(39, 0, -2)))

    def test_the_end_comes_in_time(self):
        generator = orders(40, [[list(range(1, 40))]])
        for _ in range(40):
            helpers.assert_in_time(self, next, generator)
        self.assertEqual(helpers.assert_in_time(self, list, generator), [])


class ReadWhenAskedFor(unittest.TestCase):
    def test_nothing_is_checked_before_the_first_filling_is_asked_for(self):
        for places, families, error in ((0, [], InvalidNumber), (2, None, InvalidRow), (2, [[[3]]], InvalidRow),
                                        (2, [[[1, 2]], [[2, 1]]], NotKept)):
            generator = orders(places, families)
            with self.assertRaises(error):
                next(generator)
            self.assertEqual(list(generator), [])

    def test_changes_before_the_first_filling_have_an_effect(self):
        families = [[[1, 2]]]
        generator = orders(3, families)
        families[0][0].append(3)
        self.assertEqual(list(generator), [[1, 2, 3]])
        generator = orders(3, families)
        families.append([[3, 2]])
        self.assertRaises(NotKept, next, generator)

    def test_changes_after_the_first_filling_have_none(self):
        expected = list(orders(4, [[[1, 2], [3, 4]], [[1, 3], [2, 4], []]]))
        self.assertEqual(len(expected), 2)
        changes = (
            lambda families: families.clear(),
            lambda families: families.append(None),
            lambda families: families[0].clear(),
            lambda families: families[1].append([[]]),
            lambda families: families[0][0].reverse(),
            lambda families: families[0][1].append(4),
            lambda families: families[1][0].insert(0, 9),
        )
        for change in changes:
            families = [[[1, 2], [3, 4]], [[1, 3], [2, 4], []]]
            generator = orders(4, families)
            told = [next(generator)]
            change(families)
            told.extend(generator)
            self.assertEqual(told, expected)

    def test_changes_of_what_was_told_have_none(self):
        expected = list(orders(4, [[[1, 4]]]))
        told = []
        for filling in orders(4, [[[1, 4]]]):
            told.append(list(filling))
            filling.reverse()
            filling.append(0)
            filling.clear()
        self.assertEqual(told, expected)

    def test_generators_do_not_disturb_each_other(self):
        families = [[[1, 2]]]
        expected = list(orders(4, families))
        self.assertEqual(list(zip(orders(4, families), orders(4, families))), list(zip(expected, expected)))


class InTime(unittest.TestCase):
    def test_six_families_of_forty_places(self):
        source = random.Random(36)
        sets = [[helpers.gap_chains(40, gap) for gap in gaps]
                for gaps in ((1, 2, 3, 4, 5, 6), (2, 3, 5, 7, 11, 13), (15, 16, 17, 18, 19, 20))]
        sets.append([helpers.table(20, 2)[0]] * 3 + [helpers.table(20, 2)[1]] * 3)
        sets.extend([helpers.some_family(source, 40) for _ in range(6)] for _ in range(10))
        for families in sets:
            if helpers.assert_in_time(self, keep_one_another, 40, families):
                helpers.assert_in_time(self, sure_together, 40, families)
                helpers.assert_in_time(self, first_order, 40, families)
            else:
                for function in (sure_together, first_order):
                    self.assertRaises(NotKept, helpers.assert_in_time, self, function, 40, families)

    def test_counts_of_fourteen_places(self):
        for families in ([], [[[1, 2]]] * 6, [helpers.gap_chains(14, gap) for gap in (8, 9, 10, 11, 12, 13)]):
            helpers.assert_in_time(self, count_orders, 14, families)
            helpers.assert_in_time(self, count_marks, 14, families)

    def test_any_number_of_empty_chains(self):
        families = [[[] for _ in range(20000)] + helpers.gap_chains(14, gap) for gap in (3, 4, 5, 6, 7, 8)]
        for function in (keep_one_another, sure_together, count_orders, count_marks, first_order):
            helpers.assert_in_time(self, function, 14, families)


class ArgumentsAndAnswers(unittest.TestCase):
    def test_no_argument_is_changed_and_every_list_is_new(self):
        families = [[[1, 2], [3, 4], []], [[1, 3], [2, 4]], [], [[1, 3], [2, 4]]]
        check = helpers.assert_leaves_alone
        self.assertIs(check(self, keep_one_another, 4, families), True)
        self.assertIs(check(self, keep_one_another, 4, families + [[[4, 1]]]), False)
        self.assertEqual(len(check(self, sure_together, 4, families)), 5)
        self.assertEqual(check(self, count_orders, 4, families), 2)
        self.assertEqual(check(self, count_marks, 4, families), 6)
        self.assertEqual(check(self, lambda *told: list(orders(*told)), 4, families), [[1, 2, 3, 4], [1, 3, 2, 4]])
        self.assertEqual(check(self, first_order, 4, families), [1, 2, 3, 4])

    def test_a_call_that_raises_an_error_changes_nothing(self):
        for families in ([[[1, 2]], [[2, 1]]], [[[1, 2]], [[2, 3]]]):
            before = copy.deepcopy(families)
            for function in (sure_together, count_orders, count_marks, first_order):
                self.assertRaises((NotKept, InvalidRow), function, 2, families)
            self.assertEqual(families, before)

    def test_arguments_by_name(self):
        families = [[[1, 2]], [[1, 3]]]
        self.assertIs(keep_one_another(families=families, places=3), True)
        self.assertEqual(sure_together(families=families, places=3), [(1, 2), (1, 3)])
        self.assertEqual(count_orders(families=families, places=3), 2)
        self.assertEqual(count_marks(3, families=families), 5)
        self.assertEqual(list(orders(families=families, places=3)), [[1, 2, 3], [1, 3, 2]])


if __name__ == "__main__":
    unittest.main()
