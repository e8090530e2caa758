"""Point [9]: sorting by families that keep one another, and sorting again and again."""

import itertools
import random
import unittest

from keptsorted.families import after_row, is_sorted_by, sort_by
from keptsorted.keeps import keeps
from tests import helpers


def steps_lead_back(places, families):
    """Whether one comes from a place back to itself by steps from a place of a chain to the next one."""
    reached = helpers.places_reached(places, families)
    return any(place in reached[place] for place in reached)


class SortedByAll(unittest.TestCase):
    def test_after_families_that_keep_one_another_in_any_order(self):
        source = random.Random(12)
        columns, lines = helpers.table(5, 8)
        sets = [[columns, lines], [helpers.gap_chains(40, gap) for gap in (1, 6, 15)],
                [helpers.gap_chains(13, gap) for gap in (4, 5, 7)], [[[1, 2], [3]], [[1, 3]]]]
        for families in sets:
            places = max(place for family in families for chain in family for place in chain)
            for one, two in itertools.permutations(families, 2):
                self.assertIs(keeps(places, one, two), True)
            for order in itertools.permutations(families):
                filling = [source.randint(-99, 99) for _ in range(places)]
                after = after_row(filling, list(order))
                for family in families:
                    self.assertIs(is_sorted_by(after, family), True)


class AgainAndAgain(unittest.TestCase):
    def come_to_rest(self, source, filling, families):
        """Sort by a family that the filling is not sorted by, until there is none; gives the filling and the times."""
        times = 0
        while True:
            amiss = [family for family in families if not is_sorted_by(filling, family)]
            if not amiss:
                return filling, times
            after = sort_by(filling, source.choice(amiss))
            self.assertNotEqual(after, filling)
            filling = after
            times += 1
            self.assertLessEqual(times, len(filling) * (len(filling) - 1) // 2)

    def test_all_comes_to_rest_if_no_steps_lead_back(self):
        source = random.Random(13)
        for _ in range(120):
            places = source.randint(1, 40)
            rank = {place: source.random() for place in range(1, places + 1)}
            families = []
            for _ in range(source.randint(1, 6)):
                family = helpers.some_family(source, places, 10)
                families.append([sorted(chain, key=rank.get) for chain in family])
            self.assertFalse(steps_lead_back(places, families))
            filling = [source.randint(1, places) for _ in range(places)]
            after, _ = self.come_to_rest(source, filling, families)
            self.assertEqual(sorted(after), sorted(filling))
            for family in families:
                self.assertIs(is_sorted_by(after, family), True)
                self.assertEqual(sort_by(after, family), after)

    def test_neighbours_alone_may_take_as_many_sortings_as_there_are_pairs(self):
        families = [[[place, place + 1]] for place in range(1, 40)]
        after, times = self.come_to_rest(random.Random(14), list(range(40, 0, -1)), families)
        self.assertEqual((after, times), (list(range(1, 41)), 40 * 39 // 2))

    def test_the_rest_may_be_another_one_for_another_order(self):
        families = [[[1, 2]], [[1, 3]]]
        one = after_row([3, 2, 1], families)
        two = after_row([3, 2, 1], families[::-1])
        self.assertNotEqual(one, two)
        for filling in (one, two):
            self.assertTrue(all(is_sorted_by(filling, family) for family in families))

    def test_unlike_values_never_come_to_rest_if_steps_lead_back(self):
        source = random.Random(15)
        met = 0
        while met < 60:
            places = source.randint(2, 40)
            families = [helpers.some_family(source, places, 10) for _ in range(source.randint(2, 4))]
            if not steps_lead_back(places, families):
                continue
            met += 1
            filling = list(range(places))
            source.shuffle(filling)
            for _ in range(100):
                self.assertFalse(all(is_sorted_by(filling, family) for family in families))
                filling = sort_by(filling, source.choice(families))

    def test_two_families_that_undo_each_other(self):
        filling = [1, 2]
        for _ in range(50):
            filling = sort_by(filling, [[2, 1]])
            self.assertEqual(filling, [2, 1])
            self.assertIs(is_sorted_by(filling, [[1, 2]]), False)
            filling = sort_by(filling, [[1, 2]])
            self.assertEqual(filling, [1, 2])
            self.assertIs(is_sorted_by(filling, [[2, 1]]), False)


if __name__ == "__main__":
    unittest.main()
