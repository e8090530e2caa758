"""What is in order after a row of families, and which rows do the same, by all fillings by 0 and 1."""

from keptsorted.checks import check_family, check_places, check_row
from keptsorted.marks import after_families, fewest_ones_first, filling_of, mark_of


def sure_pairs(places, row):
    """The pairs of places of which the first one is never greater after a row, ascending."""
    check_places(places)
    check_row(places, row)
    reached = sorted(set(after_families(places, row)))
    return [
        (one, two)
        for one in range(1, places + 1)
        for two in range(1, places + 1)
        if one != two and is_never_greater(places, reached, one, two)
    ]


def sorts(places, row, family):
    """Whether every filling is sorted by a family after a row."""
    return unsorted(places, row, family) is None


def unsorted(places, row, family):
    """The first filling by 0 and 1 that a row leaves unsorted by a family, as it was before the row, or None."""
    check_places(places)
    check_row(places, row)
    check_family(places, family)
    # What is sorted by the family is what sorting by it would not change.
    return first_unlike(places, after_families(places, row), after_families(places, row + [family]))


def are_alike(places, row, other):
    """Whether two rows make the same of every filling."""
    return parting(places, row, other) is None


def parting(places, row, other):
    """The first filling by 0 and 1 of which two rows do not make the same, or None."""
    check_places(places)
    check_row(places, row)
    check_row(places, other)
    return first_unlike(places, after_families(places, row), after_families(places, other))


def needless(places, row):
    """The indexes of the families without which the row does the same, ascending."""
    check_places(places)
    check_row(places, row)
    after = after_families(places, row)
    return [
        index for index in range(len(row))
        if after_families(places, row[:index] + row[index + 1:]) == after
    ]


def is_never_greater(places, reached, one, two):
    """Whether none of the fillings with these numbers has 1 at the one place and 0 at the two place."""
    greater = mark_of(places, one)
    both = greater | mark_of(places, two)
    return all([number & both != greater for number in reached])


def first_unlike(places, after, other_after):
    """The first filling for whose number the two lists tell unlike ones, or None."""
    for number in fewest_ones_first(places):
        if after[number] != other_after[number]:
            return filling_of(places, number)
    return None
