"""Sorting fillings by families of chains, and by rows of families."""

from keptsorted.checks import check_family, check_filling, check_row


def sort_by(filling, family):
    """The filling sorted by a family."""
    check_filling(filling)
    check_family(len(filling), family)
    return sorted_along(filling, family)


def is_sorted_by(filling, family):
    """Whether the filling is sorted by a family."""
    check_filling(filling)
    check_family(len(filling), family)
    return ascends_along(filling, family)


def after_row(filling, row):
    """The filling sorted by the families of a row, one after the other."""
    check_filling(filling)
    check_row(len(filling), row)
    result = list(filling)
    for family in row:
        result = sorted_along(result, family)
    return result


def sorted_along(filling, family):
    """What sort_by returns, of arguments that are checked already."""
    result = list(filling)
    for chain in family:
        values = sorted([filling[place - 1] for place in chain])
        for place, value in zip(chain, values):
            result[place - 1] = value
    return result


def ascends_along(filling, family):
    """What is_sorted_by returns, of arguments that are checked already."""
    for chain in family:
        for place, following in zip(chain, chain[1:]):
            if filling[place - 1] > filling[following - 1]:
                return False
    return True
