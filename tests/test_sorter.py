"""What stands under keptsorted/sorter.py, and points [2] and [5] as far as they speak of objects."""

import copy
import random
import unittest

from keptsorted.errors import InvalidFamily, InvalidFilling, InvalidNumber, NothingToUndo
from keptsorted.gaps import gap_family
from keptsorted.sorter import Sorter
from tests import helpers


class Whole(int):
    """A whole number of a class of its own."""


def change_value(sorter, place, value):
    """Changing a value, as a function, so that its errors are met like those of a function."""
    sorter[place] = value


class Looking(unittest.TestCase):
    def assert_looks(self, sorter, filling, deeds):
        """Everything that can be seen of a sorter is as it should be."""
        self.assertEqual(sorter.filling, filling)
        self.assertIs(type(sorter.filling), list)
        self.assertEqual(len(sorter), deeds)
        self.assertEqual(list(sorter), filling)
        self.assertEqual([value for value in sorter], filling)
        self.assertEqual([sorter[place] for place in range(1, len(filling) + 1)], filling)
        told = sorter.gaps()
        self.assertIs(type(told), list)
        self.assertEqual(told, helpers.reference_gaps_of(filling))
        places = range(1, len(filling) + 1)
        for family in ([], [list(places)], [list(places)[::-1]], helpers.gap_chains(len(filling), 2)):
            self.assertIs(sorter.is_sorted(family), helpers.reference_is_sorted(filling, family))


class Examples(Looking):
    def test_examples_of_the_document(self):
        sorter = Sorter([4, 3, 2, 1])
        self.assertEqual(
            (sorter.apply([[1, 3], [2, 4]]), sorter.filling, sorter.sweep(1), list(sorter), sorter.gaps()),
            (4, [2, 1, 4, 3], 4, [1, 2, 3, 4], [1, 2, 3]),
        )
        self.assertEqual(
            (sorter.undo(), sorter[1], len(sorter), list(sorter.run([[[1, 2]]])), sorter.is_sorted([[1, 3]])),
            (None, 2, 1, [[1, 2, 4, 3]], True),
        )


class NewSorters(Looking):
    def test_before_the_first_deed(self):
        for filling in ([7], [3, 1, 2], [0] * 40, list(range(40, 0, -1)), [helpers.HUGE, -helpers.HUGE]):
            self.assert_looks(Sorter(list(filling)), filling, 0)

    def test_the_list_may_change_later(self):
        filling = [3, 1, 2]
        sorter = Sorter(filling)
        filling[0] = 9
        filling.append(4)
        self.assert_looks(sorter, [3, 1, 2], 0)
        self.assertEqual(filling, [9, 1, 2, 4])

    def test_the_list_is_not_changed_by_deeds(self):
        filling = [3, 1, 2]
        sorter = Sorter(filling)
        sorter.apply([[1, 2, 3]])
        sorter[1] = 8
        sorter.sweep(1)
        list(sorter.run([[[3, 2, 1]]]))
        sorter.undo()
        self.assertEqual(filling, [3, 1, 2])

    def test_two_sorters_do_not_hang_together(self):
        filling = [3, 2, 1]
        one, two = Sorter(filling), Sorter(filling)
        one.apply([[1, 2, 3]])
        self.assert_looks(one, [1, 2, 3], 1)
        self.assert_looks(two, [3, 2, 1], 0)
        two[1] = 5
        two.sweep(2)
        one.undo()
        self.assert_looks(one, [3, 2, 1], 0)
        self.assert_looks(two, [1, 2, 5], 2)
        three = Sorter(two.filling)
        two.undo()
        self.assert_looks(three, [1, 2, 5], 0)

    def test_arguments_by_name(self):
        sorter = Sorter(filling=[3, 2, 1])
        self.assertEqual(sorter.apply(family=[[1, 2]]), 2)
        self.assertEqual(sorter.sweep(gap=1), 2)
        self.assertIs(sorter.is_sorted(family=[[2, 3]]), True)
        self.assertEqual(list(sorter.run(row=[[[2, 1]]])), [[2, 1, 3]])

    def test_a_sorter_without_deeds_is_no_other_thing(self):
        self.assertEqual(len(Sorter([5])), 0)
        self.assertEqual(list(Sorter([5])), [5])
        self.assertEqual(Sorter([5])[1], 5)


class Values(Looking):
    def test_places_begin_with_one(self):
        sorter = Sorter([7, 8, 9])
        self.assertEqual((sorter[1], sorter[2], sorter[3]), (7, 8, 9))
        self.assertEqual(sorter[Whole(2)], 8)
        sorter[1] = 70
        self.assert_looks(sorter, [70, 8, 9], 1)
        sorter[3] = -90
        self.assert_looks(sorter, [70, 8, -90], 2)
        sorter[Whole(2)] = helpers.HUGE
        self.assert_looks(sorter, [70, helpers.HUGE, -90], 3)

    def test_looking_at_a_value_is_no_deed(self):
        sorter = Sorter([7, 8])
        self.assertEqual([sorter[1], sorter[1], sorter[2]], [7, 7, 8])
        self.assertEqual(len(sorter), 0)

    def test_the_same_value_again_is_a_deed(self):
        sorter = Sorter([7, 8])
        sorter[1] = 7
        self.assert_looks(sorter, [7, 8], 1)
        sorter[2] = 8
        self.assert_looks(sorter, [7, 8], 2)
        sorter.undo()
        self.assert_looks(sorter, [7, 8], 1)
        sorter[2] = 3
        sorter.undo()
        sorter.undo()
        self.assert_looks(sorter, [7, 8], 0)
        helpers.caught(self, NothingToUndo, sorter.undo)

    def test_one_place_and_forty(self):
        sorter = Sorter([0])
        sorter[1] = 5
        self.assert_looks(sorter, [5], 1)
        sorter = Sorter(list(range(40)))
        sorter[40] = -1
        self.assert_looks(sorter, list(range(39)) + [-1], 1)
        self.assertEqual(sorter[40], -1)

    def test_a_value_changed_in_place(self):
        sorter = Sorter([1, 2])
        sorter[2] += 5
        self.assert_looks(sorter, [1, 7], 1)


class GoingThrough(Looking):
    def test_again_and_again(self):
        sorter = Sorter([3, 1, 2])
        self.assertEqual([(one, two) for one in sorter for two in sorter],
                         [(one, two) for one in (3, 1, 2) for two in (3, 1, 2)])
        self.assertEqual((sum(sorter), max(sorter), sorted(sorter)), (6, 3, [1, 2, 3]))

    def test_values_are_those_when_it_begins(self):
        deeds = (
            lambda sorter: sorter.apply([[1, 2, 3]]), lambda sorter: sorter.sweep(1),
            lambda sorter: change_value(sorter, 2, 9), lambda sorter: change_value(sorter, 3, 9),
            lambda sorter: list(sorter.run([[[1, 2, 3]]])), lambda sorter: sorter.undo(),
        )
        for deed in deeds:
            sorter = Sorter([9, 9, 9])
            change_value(sorter, 1, 4)
            for place, value in ((1, 3), (2, 2), (3, 1)):
                sorter[place] = value
            met = []
            for value in sorter:
                if not met:
                    deed(sorter)
                met.append(value)
            self.assertEqual(met, [3, 2, 1])
            self.assertNotEqual(list(sorter), [3, 2, 1])

    def test_it_begins_anew_each_time(self):
        sorter = Sorter([2, 1])
        met = []
        for _ in sorter:
            sorter.sweep(1)
            met.append(list(sorter))
        self.assertEqual(met, [[1, 2], [1, 2]])
        self.assertEqual(len(sorter), 2)


class Apply(Looking):
    def test_how_many_places_have_another_value(self):
        sorter = Sorter([4, 3, 2, 1])
        for family, told, filling in (
            ([[1, 3], [2, 4]], 4, [2, 1, 4, 3]), ([[1, 3], [2, 4]], 0, [2, 1, 4, 3]), ([[1, 2]], 2, [1, 2, 4, 3]),
            ([[1, 2, 3, 4]], 2, [1, 2, 3, 4]), ([[2, 3, 4, 1]], 4, [4, 1, 2, 3]), ([], 0, [4, 1, 2, 3]),
            ([[], [4], [1]], 0, [4, 1, 2, 3]), ([[3, 1, 2]], 3, [2, 4, 1, 3]),
        ):
            deeds = len(sorter)
            self.assertEqual(sorter.apply(family), told)
            self.assert_looks(sorter, filling, deeds + 1)

    def test_values_and_not_where_they_came_from_count(self):
        sorter = Sorter([1, 1, 0, 0])
        self.assertEqual(sorter.apply([[1, 2, 3, 4]]), 4)
        sorter = Sorter([1, 1, 1, 0])
        told = sorter.apply([[1, 2, 3, 4]])
        self.assertEqual(told, 2)
        self.assertIs(type(told), int)
        self.assert_looks(sorter, [0, 1, 1, 1], 1)
        sorter = Sorter([5] * 40)
        self.assertEqual(sorter.apply([list(range(40, 0, -1))]), 0)

    def test_the_family_may_change_later_and_is_not_changed(self):
        sorter, family = Sorter([3, 2, 1]), [[1, 2], [3]]
        sorter.apply(family)
        self.assertEqual(family, [[1, 2], [3]])
        family[0].reverse()
        family.pop()
        self.assert_looks(sorter, [2, 3, 1], 1)
        sorter.undo()
        self.assert_looks(sorter, [3, 2, 1], 0)

    def test_compared_with_a_reference(self):
        source = random.Random(81)
        for _ in range(100):
            filling = [source.randint(-3, 3) for _ in range(source.randint(1, 40))]
            family = helpers.some_family(source, len(filling), 20)
            expected = helpers.reference_sorted(filling, family)
            sorter = Sorter(filling)
            self.assertEqual(sorter.apply(family), sum(old != new for old, new in zip(filling, expected)))
            self.assert_looks(sorter, expected, 1)


class Sweep(Looking):
    def test_how_many_places_have_another_value(self):
        sorter = Sorter([3, 2, 1, 4])
        for gap, told, filling in (
            (4, 0, [3, 2, 1, 4]), (1, 3, [2, 1, 3, 4]), (2, 0, [2, 1, 3, 4]), (1, 2, [1, 2, 3, 4]),
            (1, 0, [1, 2, 3, 4]),
        ):
            deeds = len(sorter)
            self.assertEqual(sorter.sweep(gap), told)
            self.assert_looks(sorter, filling, deeds + 1)

    def test_values_and_not_exchanges_count(self):
        sorter = Sorter([1, 0, 0, 0])
        self.assertEqual(sorter.sweep(1), 2)
        self.assert_looks(sorter, [0, 0, 0, 1], 1)
        sorter = Sorter([7])
        told = sorter.sweep(1)
        self.assertEqual(told, 0)
        self.assertIs(type(told), int)
        self.assert_looks(sorter, [7], 1)

    def test_compared_with_a_reference(self):
        source = random.Random(82)
        for _ in range(100):
            filling = [source.randint(-3, 3) for _ in range(source.randint(1, 40))]
            gap = source.randint(1, len(filling))
            expected = helpers.reference_sweep(filling, gap)
            sorter = Sorter(filling)
            self.assertEqual(sorter.sweep(gap), sum(old != new for old, new in zip(filling, expected)))
            self.assert_looks(sorter, expected, 1)


class Undo(Looking):
    def test_nothing_to_undo(self):
        sorter = Sorter([2, 1])
        for _ in range(2):
            error = helpers.caught(self, NothingToUndo, sorter.undo)
            self.assertIsInstance(error, LookupError)
            self.assertNotIsInstance(error, ValueError)
            self.assert_looks(sorter, [2, 1], 0)
        sorter.sweep(1)
        self.assertIsNone(sorter.undo())
        helpers.caught(self, NothingToUndo, sorter.undo)
        self.assert_looks(sorter, [2, 1], 0)
        sorter.sweep(1)
        self.assert_looks(sorter, [1, 2], 1)

    def test_deeds_of_every_kind_taken_back_one_by_one(self):
        sorter = Sorter([5, 4, 3, 2, 1])
        seen = [sorter.filling]
        deeds = (
            lambda: sorter.apply([[1, 5], [2, 4]]), lambda: sorter.sweep(2), lambda: change_value(sorter, 3, 9),
            lambda: change_value(sorter, 3, 9), lambda: sorter.apply([]), lambda: sorter.apply([[5, 4, 3, 2, 1]]),
            lambda: next(sorter.run([[[1, 2, 3]]])), lambda: sorter.sweep(5), lambda: sorter.sweep(1),
            lambda: change_value(sorter, 1, -helpers.HUGE),
        )
        for deed in deeds:
            deed()
            self.assertEqual(len(sorter), len(seen))
            seen.append(sorter.filling)
        while len(seen) > 1:
            self.assert_looks(sorter, seen.pop(), len(seen))
            self.assertIsNone(sorter.undo())
        self.assert_looks(sorter, [5, 4, 3, 2, 1], 0)
        helpers.caught(self, NothingToUndo, sorter.undo)

    def test_a_second_undo_takes_back_the_deed_before(self):
        sorter = Sorter([3, 2, 1])
        sorter.sweep(1)
        sorter.sweep(1)
        sorter.undo()
        self.assert_looks(sorter, [2, 1, 3], 1)
        sorter.undo()
        self.assert_looks(sorter, [3, 2, 1], 0)

    def test_deeds_behind_deeds_that_were_taken_back(self):
        sorter = Sorter([3, 2, 1])
        sorter[1] = 7
        sorter[2] = 8
        sorter.undo()
        sorter[3] = 9
        self.assert_looks(sorter, [7, 2, 9], 2)
        sorter.undo()
        self.assert_looks(sorter, [7, 2, 1], 1)
        sorter.undo()
        self.assert_looks(sorter, [3, 2, 1], 0)

    def test_deeds_by_chance(self):
        source = random.Random(83)
        for _ in range(25):
            filling = [source.randint(-5, 5) for _ in range(source.randint(1, 40))]
            sorter, seen = Sorter(filling), [list(filling)]
            for _ in range(60):
                self.do_something(source, sorter, seen)
                self.assertEqual((sorter.filling, len(sorter)), (seen[-1], len(seen) - 1))
            self.assert_looks(sorter, seen[-1], len(seen) - 1)

    def do_something(self, source, sorter, seen):
        now, kind = list(seen[-1]), source.randrange(5)
        if kind == 0 and len(seen) > 1:
            sorter.undo()
            seen.pop()
        elif kind == 1:
            place = source.randint(1, len(now))
            sorter[place] = now[place - 1] = source.randint(-5, 5)
            seen.append(now)
        elif kind == 2:
            gap = source.randint(1, len(now))
            sorter.sweep(gap)
            seen.append(helpers.reference_sweep(now, gap))
        elif kind == 3:
            family = helpers.some_family(source, len(now), 20)
            sorter.apply(family)
            seen.append(helpers.reference_sorted(now, family))
        else:
            for told in sorter.run([helpers.some_family(source, len(now), 20) for _ in range(2)]):
                seen.append(told)


class Run(Looking):
    def test_the_filling_after_each_family(self):
        sorter = Sorter([4, 3, 2, 1])
        told = list(sorter.run([[[1, 2], [3, 4]], [[1, 3], [2, 4]], [], [[4, 1]]]))
        self.assertEqual(told, [[3, 4, 1, 2], [1, 2, 3, 4], [1, 2, 3, 4], [4, 2, 3, 1]])
        self.assert_looks(sorter, [4, 2, 3, 1], 4)
        for filling in ([1, 2, 3, 4], [1, 2, 3, 4], [3, 4, 1, 2], [4, 3, 2, 1]):
            sorter.undo()
            self.assertEqual(sorter.filling, filling)

    def test_the_empty_row(self):
        sorter = Sorter([2, 1])
        self.assertEqual(list(sorter.run([])), [])
        self.assert_looks(sorter, [2, 1], 0)

    def test_it_is_a_generator(self):
        run = Sorter([2, 1]).run([[[1, 2]]])
        self.assertIs(iter(run), run)
        self.assertEqual(next(run), [1, 2])
        with self.assertRaises(StopIteration):
            next(run)

    def test_nothing_is_done_until_it_is_asked_for(self):
        sorter = Sorter([3, 2, 1])
        run = sorter.run([[[1, 2, 3]], [[3, 2, 1]]])
        self.assert_looks(sorter, [3, 2, 1], 0)
        self.assertEqual(next(run), [1, 2, 3])
        self.assert_looks(sorter, [1, 2, 3], 1)
        self.assertEqual(next(run), [3, 2, 1])
        self.assert_looks(sorter, [3, 2, 1], 2)
        self.assertIsNone(next(run, None))
        self.assert_looks(sorter, [3, 2, 1], 2)

    def test_nothing_is_checked_until_it_is_asked_for(self):
        sorter, row = Sorter([3, 2, 1]), [None]
        run = sorter.run(row)
        row[0] = [[1, 3]]
        self.assertEqual(list(run), [[1, 2, 3]])

    def test_the_list_is_read_as_it_is_then(self):
        sorter, row = Sorter([3, 2, 1]), [[[1, 2]]]
        run = sorter.run(row)
        row[0] = [[1, 3]]
        self.assertEqual(next(run), [1, 2, 3])
        row.append([[3, 2, 1]])
        self.assertEqual(next(run), [3, 2, 1])
        row.append([[1, 2]])
        row[2][0].append(3)
        self.assertEqual(next(run), [1, 2, 3])
        row.extend([[[2, 1]], None])
        del row[3:]
        self.assertIsNone(next(run, None))
        self.assert_looks(sorter, [1, 2, 3], 3)

    def test_the_list_is_read_by_the_index(self):
        sorter, row = Sorter([3, 2, 1]), [[[1, 2]], [[2, 3]]]
        run = sorter.run(row)
        self.assertEqual(next(run), [2, 3, 1])
        row.insert(0, None)
        self.assertEqual(next(run), [2, 3, 1])
        self.assertEqual(next(run), [2, 1, 3])
        self.assertIsNone(next(run, None))
        row = [[[1, 2]], None, [[3, 2, 1]]]
        run = sorter.run(row)
        self.assertEqual(next(run), [1, 2, 3])
        del row[0]
        row[0] = None
        self.assertEqual(next(run), [3, 2, 1])
        row = [[[1, 2]], [[1, 3]]]
        run = sorter.run(row)
        self.assertEqual(next(run), [2, 3, 1])
        del row[0]
        self.assertIsNone(next(run, None))
        self.assert_looks(sorter, [2, 3, 1], 6)

    def test_it_goes_on_from_what_stands(self):
        sorter = Sorter([4, 3, 2, 1])
        run = sorter.run([[[1, 2]], [[3, 4]], [[2, 3]], [[1, 2, 3, 4]]])
        self.assertEqual(next(run), [3, 4, 2, 1])
        sorter[3] = 9
        self.assertEqual(next(run), [3, 4, 1, 9])
        sorter.undo()
        sorter.undo()
        self.assertEqual(next(run), [3, 2, 4, 1])
        self.assert_looks(sorter, [3, 2, 4, 1], 2)
        sorter.undo()
        sorter.undo()
        sorter.sweep(3)
        self.assertEqual(next(run), [1, 2, 3, 4])
        self.assert_looks(sorter, [1, 2, 3, 4], 2)

    def test_two_runs_at_once(self):
        sorter = Sorter([4, 3, 2, 1])
        row = [[[1, 2]], [[2, 3]], [[3, 4]]]
        one, two = sorter.run(row), sorter.run(row)
        self.assertEqual(next(one), [3, 4, 2, 1])
        self.assertEqual(next(two), [3, 4, 2, 1])
        self.assertEqual(next(one), [3, 2, 4, 1])
        self.assertEqual(next(one), [3, 2, 1, 4])
        self.assertEqual(next(two), [3, 1, 2, 4])
        self.assertEqual(len(sorter), 5)

    def test_a_wrong_family_leaves_the_deeds_ahead_of_it(self):
        for wrong, chain, index in ((None, None, None), ([None], 0, None), ([[1], [4]], 1, 0), ([[1, 2, 1]], 0, 2),
                                    ([[True]], 0, 0), ((), None, None), ([[1], (2,)], 1, None)):
            sorter = Sorter([3, 2, 1])
            run = sorter.run([[[1, 2]], [[2, 3]], wrong, [[1, 2]]])
            self.assertEqual(next(run), [2, 3, 1])
            self.assertEqual(next(run), [2, 1, 3])
            error = helpers.caught(self, InvalidFamily, next, run)
            self.assertEqual((error.chain, error.index), (chain, index))
            self.assert_looks(sorter, [2, 1, 3], 2)
            sorter.undo()
            self.assert_looks(sorter, [2, 3, 1], 1)

    def test_a_wrong_family_is_met_only_when_its_turn_comes(self):
        sorter = Sorter([2, 1])
        for told in sorter.run([[[1, 2]], None]):
            self.assertEqual(told, [1, 2])
            break
        self.assert_looks(sorter, [1, 2], 1)

    def test_a_family_for_other_numbers_of_places(self):
        sorter = Sorter([2, 1])
        error = helpers.caught(self, InvalidFamily, next, sorter.run([[[1, 2, 3]]]))
        self.assertEqual((error.chain, error.index), (0, 2))
        self.assert_looks(sorter, [2, 1], 0)

    def test_the_row_is_not_changed(self):
        row = [[[1, 2], [3]], [], [[3, 2, 1]]]
        before = copy.deepcopy(row)
        list(Sorter([3, 2, 1]).run(row))
        self.assertEqual(row, before)

    def test_what_a_run_gives_may_change(self):
        sorter = Sorter([3, 2, 1])
        told = []
        for filling in sorter.run([[[1, 2]], [], [], [[1, 2, 3]]]):
            told.append(list(filling))
            self.assertEqual(sorter.filling, filling)
            filling[0] = 99
            filling.append(7)
        self.assertEqual(told, [[2, 3, 1], [2, 3, 1], [2, 3, 1], [1, 2, 3]])
        self.assert_looks(sorter, [1, 2, 3], 4)
        for filling in ([2, 3, 1], [2, 3, 1], [2, 3, 1], [3, 2, 1]):
            sorter.undo()
            self.assertEqual(sorter.filling, filling)

    def test_what_a_run_gives_is_not_changed_by_later_deeds(self):
        sorter = Sorter([3, 2, 1])
        told = list(sorter.run([[[1, 2]], [], [[1, 2, 3]]]))
        self.assertEqual(len(set(helpers.lists_in(told))), 4)
        sorter[1] = 50
        sorter.undo()
        sorter.undo()
        self.assertEqual(told, [[2, 3, 1], [2, 3, 1], [1, 2, 3]])


class ListsThatAreGivenOut(Looking):
    def test_filling_and_gaps_are_new_lists(self):
        sorter = Sorter([3, 1, 2])
        sorter.sweep(1)
        given = [sorter.filling, sorter.filling, sorter.gaps(), sorter.gaps(), list(sorter)]
        self.assertEqual(len(set(helpers.lists_in(given))), 6)
        for told in given:
            told.append(9)
            told[0] = 9
        self.assert_looks(sorter, [1, 2, 3], 1)
        sorter.undo()
        self.assert_looks(sorter, [3, 1, 2], 0)

    def test_a_filling_that_was_read_stays(self):
        sorter = Sorter([3, 1, 2])
        before = sorter.filling
        sorter.sweep(1)
        sorter[1] = 8
        self.assertEqual(before, [3, 1, 2])


class Wrong(Looking):
    def assert_number(self, thing, function, *arguments):
        self.assertIs(helpers.caught(self, InvalidNumber, function, *arguments).number, thing)

    def assert_filling(self, index, function, *arguments):
        self.assertEqual(helpers.caught(self, InvalidFilling, function, *arguments).index, index)

    def assert_family(self, chain, index, function, *arguments):
        error = helpers.caught(self, InvalidFamily, function, *arguments)
        self.assertEqual((error.chain, error.index), (chain, index))

    def sorters(self):
        """Sorters without deeds and with some, and how they look."""
        fresh, used = Sorter([3, 2, 1]), Sorter([0, 0, 0])
        used.apply([])
        used[1] = 3
        used[2] = 2
        used[3] = 1
        return ((fresh, 0), (used, 4))

    def assert_unchanged(self, sorter, deeds):
        self.assert_looks(sorter, [3, 2, 1], deeds)

    def test_fillings(self):
        for thing in helpers.things_that_are_no_lists() + [[], [1] * 41, [None] * 41]:
            self.assert_filling(None, Sorter, thing)
        for thing in helpers.things_that_are_no_whole_numbers():
            self.assert_filling(0, Sorter, [thing])
            self.assert_filling(2, Sorter, [1, 2, thing, thing])
            self.assert_filling(39, Sorter, [1] * 39 + [thing])
        for sorter, _ in self.sorters():
            self.assert_filling(None, Sorter, sorter)

    def test_places(self):
        things = helpers.things_that_are_no_whole_numbers() + [0, -1, -3, 4, 10 ** 70, -10 ** 70, slice(1, 2)]
        for sorter, deeds in self.sorters():
            for thing in things:
                self.assert_number(thing, sorter.__getitem__, thing)
                for value in (1, None, True):
                    self.assert_number(thing, change_value, sorter, thing, value)
                self.assert_unchanged(sorter, deeds)

    def test_places_of_one_and_of_forty(self):
        for places in (1, 40):
            sorter = Sorter([5] * places)
            for thing in (0, -1, places + 1, True, False, Whole(0), Whole(41)):
                self.assert_number(thing, sorter.__getitem__, thing)
                self.assert_number(thing, change_value, sorter, thing, 3)
            self.assert_looks(sorter, [5] * places, 0)

    def test_values(self):
        for sorter, deeds in self.sorters():
            for thing in helpers.things_that_are_no_whole_numbers():
                for place in (1, 2, 3):
                    self.assert_filling(place - 1, change_value, sorter, place, thing)
                self.assert_unchanged(sorter, deeds)

    def test_families(self):
        faults = [([[1], [4]], 1, 0), ([[1, 2, 1]], 0, 2), ([[1], [2, 1]], 1, 1), ([[True]], 0, 0), ([[0]], 0, 0),
                  ([[1, 4], None], 0, 1), ([None, [9]], 0, None)]
        faults += [(thing, None, None) for thing in helpers.things_that_are_no_lists()]
        faults += [([[1], thing], 1, None) for thing in helpers.things_that_are_no_lists()]
        faults += [([[1, thing]], 0, 1) for thing in helpers.things_that_are_no_whole_numbers()]
        for sorter, deeds in self.sorters():
            for family, chain, index in faults:
                self.assert_family(chain, index, sorter.apply, family)
                self.assert_family(chain, index, sorter.is_sorted, family)
                self.assert_family(chain, index, next, sorter.run([family]))
                self.assert_unchanged(sorter, deeds)

    def test_gaps(self):
        things = helpers.things_that_are_no_whole_numbers() + [0, -1, 4, 41, 10 ** 70, -10 ** 70, Whole(4)]
        for sorter, deeds in self.sorters():
            for thing in things:
                self.assert_number(thing, sorter.sweep, thing)
                self.assert_unchanged(sorter, deeds)
            self.assertEqual(sorter.sweep(Whole(3)), 0)

    def test_behind_an_error_deeds_go_on(self):
        for sorter, deeds in self.sorters():
            self.assert_number(9, sorter.sweep, 9)
            self.assert_filling(0, change_value, sorter, 1, "1")
            sorter.sweep(1)
            self.assert_looks(sorter, [2, 1, 3], deeds + 1)
            self.assert_family(None, None, sorter.apply, None)
            sorter.undo()
            self.assert_unchanged(sorter, deeds)

    def test_the_fields_hold_the_thing_itself(self):
        sorter, thing = Sorter([1]), [1]
        self.assert_number(thing, sorter.sweep, thing)
        self.assert_number(thing, sorter.__getitem__, thing)
        self.assert_number(thing, change_value, sorter, thing, thing)


class InTime(Looking):
    def test_two_thousand_deeds(self):
        filling = list(range(40, 0, -1))
        sorter = Sorter(filling)
        family = [list(range(1, 41))]
        for number in range(500):
            helpers.assert_in_time(self, sorter.apply, family if number % 2 else [family[0][::-1]])
            helpers.assert_in_time(self, sorter.sweep, 1 + number % 40)
            helpers.assert_in_time(self, change_value, sorter, 1 + number % 40, number)
            helpers.assert_in_time(self, next, sorter.run([gap_family(40, 1 + number % 7)]))
        self.assertEqual(helpers.assert_in_time(self, len, sorter), 2000)
        helpers.assert_in_time(self, list, sorter)
        helpers.assert_in_time(self, sorter.gaps)
        for deeds in range(1999, -1, -1):
            helpers.assert_in_time(self, sorter.undo)
            self.assertEqual(len(sorter), deeds)
        self.assert_looks(sorter, filling, 0)

    def test_a_run_of_sixty_families(self):
        even, odd = helpers.bricks(40)
        sorter = Sorter(list(range(40, 0, -1)))
        told = helpers.assert_in_time(self, list, sorter.run([even, odd] * 30))
        self.assertEqual((len(told), told[-1]), (60, list(range(1, 41))))
        self.assert_looks(sorter, list(range(1, 41)), 60)

    def test_deeds_again_and_again_taken_back(self):
        sorter = Sorter([2, 1] * 20)
        for _ in range(1000):
            sorter.sweep(1)
            helpers.assert_in_time(self, sorter.undo)
        self.assert_looks(sorter, [2, 1] * 20, 0)


if __name__ == "__main__":
    unittest.main()
